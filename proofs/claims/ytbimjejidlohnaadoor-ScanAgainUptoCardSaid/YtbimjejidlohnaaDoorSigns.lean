/- ScanSigns: each byte by itself. -/
import Derived.Test.YtbimjejidlohnaaDoorShown
import Derived.Laws.IdiomStrings
import Derived.BigRegion
namespace Go.Proofs.YtbimjejidlohnaaDoor
open Go.RowKit
namespace W

/-- A text of one byte. -/
def bt (c : Nat) : ByteArray := ⟨#[UInt8.ofNat c]⟩
theorem conv_byte (c : Nat) (hc : c < 256) (w : World) (k : Nat) (h : w.cell? ⟨k, 0, none⟩ = some (.int .u8 (c : Int))) :
    (convert 41 9 (.slice (some ⟨k, 0, none⟩) 1 1)).run Tryd.prog w = .ok (.string (bt c)) w := by
  have hc' : ((UInt8.ofNat c).toNat : Int) = (c : Int) := by
    rw [UInt8.toNat_ofNat', Nat.mod_eq_of_lt (by omega)]
  refine run_convert_bytes_back w _ _ 5 _ 1 [UInt8.ofNat c] Tryd.underlying41 Tryd.underlying5 Tryd.underlying9 ?_
  intro j hj
  obtain rfl : j = 0 := by simpa using hj
  have he : (({ block := k, off := 0 } : Addr).add 0) = ⟨k, 0, none⟩ := rfl
  rw [he, h]
  exact (congrArg (fun x => some (Value.int .u8 x)) hc').symm
theorem below_drew {B : Nat} {a w : World} (h : Below B a w) : Below B a w.drew := h.trans ⟨rfl, rfl, rfl, Nat.le_refl _, fun _ _ => rfl⟩
def expect (c : Nat) : Except (Nat × Nat) (List P.Tok) :=
  if c = 32 ∨ c = 9 ∨ c = 35 then .ok [⟨0, 1, ByteArray.empty, 0⟩]
  else if c = 10 then .ok [⟨1, 0, bt c, 0⟩, ⟨0, 1, ByteArray.empty, 0⟩]
  else if P.small c = true then .ok [⟨2, 0, bt c, 0⟩, ⟨0, 1, ByteArray.empty, 0⟩]
  else if P.capital c = true then .ok [⟨3, 0, bt c, 0⟩, ⟨0, 1, ByteArray.empty, 0⟩]
  else if P.digit c = true then .ok [⟨4, 0, bt c, c - 48⟩, ⟨0, 1, ByteArray.empty, 0⟩]
  else if P.sign c = true then .ok [⟨5, 0, bt c, 0⟩, ⟨0, 1, ByteArray.empty, 0⟩]
  else .error (0, 3)
def alike : Except (Nat × Nat) (List P.Tok) → Except (Nat × Nat) (List P.Tok) → Bool
  | .ok l, .ok m => decide (l = m)
  | .error e, .error f => decide (e = f)
  | _, _ => false
theorem alike_eq {x y : Except (Nat × Nat) (List P.Tok)} (h : alike x y = true) : x = y := by
  cases x <;> cases y <;> simp_all [alike]
theorem all_alike : ((List.range 256).all fun c => alike (P.scanAll (bt c)) (expect c)) = true := by kernel_rfl
theorem scan_byte (c : Nat) (hc : c < 256) : P.scanAll (bt c) = expect c := alike_eq ((List.all_eq_true.1 all_alike) c (List.mem_range.2 hc))
theorem small_iff (c : Nat) : P.small c = true ↔ 97 ≤ c ∧ c ≤ 122 := by unfold P.small; simp
theorem capital_iff (c : Nat) : P.capital c = true ↔ 65 ≤ c ∧ c ≤ 90 := by unfold P.capital; simp
theorem digit_iff (c : Nat) : P.digit c = true ↔ 48 ≤ c ∧ c ≤ 57 := by unfold P.digit; simp
theorem sign_iff (c : Nat) : P.sign c = true ↔ 33 ≤ c ∧ c ≤ 126 ∧ c ≠ 95 := by unfold P.sign; simp

set_option maxRecDepth 100000 in
set_option maxHeartbeats 600000 in
theorem signs_sp (c : Nat) (hc : c < 256) (h1 : c = 32) (w : World) (hg : Handle w) : Calls Tryd.prog 8 #[.int .u8 (c : Int)] w fun e w' => e = .returned (.bool true) ∧ Below w.heap.size w w' := by
  have HG := Lib.hid hg
  have hk := conv_byte c hc
  have hs : P.scanAll (bt c) = .ok [⟨0, 1, ByteArray.empty, 0⟩] := by
    rw [scan_byte c hc]
    unfold expect
    rw [if_pos (by omega)]
  have HS := Lib.hid hs
  clear hs hg
  have f_eq32 : (((c : Nat) : Int) == 32) = true := by rw [beq_iff_eq]; omega
  clear h1
  go_enter Tryd.func8, Tryd.ntmps8
  go_wp2_with fail
  refine (shown_any _ HG.out).mono ?_
  rintro e w1 ⟨rfl, hb1⟩
  have HB1 := Lib.hid hb1
  clear hb1
  go_wp2_with fail
  refine (all_ok HS.out (by show 1 ≤ _; decide) _).mono ?_
  rintro e w2 ⟨g, cap, rfl, _, _, ht, hb2⟩
  have HT := Lib.hid ht
  have HB2 := Lib.hid (HB1.out.trans (((Below.refl _ _).alloc (Nat.le_refl _) _).trans (hb2.mono (by simp))|>.mono HB1.out.size))
  clear ht hb2
  simp only [List.length_cons, List.length_nil, Nat.zero_add]
  go_wp2_with fail
  refine (fault_nil _).mono ?_
  rintro e w3 ⟨rfl, h3⟩
  obtain rfl : w2 = w3 := h3.symm
  have c00 : w2.cell? ⟨g, 0, none⟩ = some (.int .i64 0) := HT.out.c 0 _ rfl 0 _ rfl
  have c01 : w2.cell? ⟨g, 1, none⟩ = some (.int .i64 1) := HT.out.c 0 _ rfl 1 _ rfl
  have c02 : w2.cell? ⟨g, 2, none⟩ = some (.string ⟨#[]⟩) := HT.out.c 0 _ rfl 2 _ rfl
  have c03 : w2.cell? ⟨g, 3, none⟩ = some (.int .i64 0) := HT.out.c 0 _ rfl 3 _ rfl
  go_wp2_with fail
  go_ret
  exact ⟨rfl, HB2.out⟩

set_option maxRecDepth 100000 in
set_option maxHeartbeats 600000 in
theorem signs_tab (c : Nat) (hc : c < 256) (h1 : c = 9) (w : World) (hg : Handle w) : Calls Tryd.prog 8 #[.int .u8 (c : Int)] w fun e w' => e = .returned (.bool true) ∧ Below w.heap.size w w' := by
  have HG := Lib.hid hg
  have hk := conv_byte c hc
  have hs : P.scanAll (bt c) = .ok [⟨0, 1, ByteArray.empty, 0⟩] := by
    rw [scan_byte c hc]
    unfold expect
    rw [if_pos (by omega)]
  have HS := Lib.hid hs
  clear hs hg
  have f_eq32 : (((c : Nat) : Int) == 32) = false := by rw [beq_eq_false_iff_ne]; omega
  have f_eq9 : (((c : Nat) : Int) == 9) = true := by rw [beq_iff_eq]; omega
  clear h1
  go_enter Tryd.func8, Tryd.ntmps8
  go_wp2_with fail
  refine (shown_any _ HG.out).mono ?_
  rintro e w1 ⟨rfl, hb1⟩
  have HB1 := Lib.hid hb1
  clear hb1
  go_wp2_with fail
  refine (all_ok HS.out (by show 1 ≤ _; decide) _).mono ?_
  rintro e w2 ⟨g, cap, rfl, _, _, ht, hb2⟩
  have HT := Lib.hid ht
  have HB2 := Lib.hid (HB1.out.trans (((Below.refl _ _).alloc (Nat.le_refl _) _).trans (hb2.mono (by simp))|>.mono HB1.out.size))
  clear ht hb2
  simp only [List.length_cons, List.length_nil, Nat.zero_add]
  go_wp2_with fail
  refine (fault_nil _).mono ?_
  rintro e w3 ⟨rfl, h3⟩
  obtain rfl : w2 = w3 := h3.symm
  have c00 : w2.cell? ⟨g, 0, none⟩ = some (.int .i64 0) := HT.out.c 0 _ rfl 0 _ rfl
  have c01 : w2.cell? ⟨g, 1, none⟩ = some (.int .i64 1) := HT.out.c 0 _ rfl 1 _ rfl
  have c02 : w2.cell? ⟨g, 2, none⟩ = some (.string ⟨#[]⟩) := HT.out.c 0 _ rfl 2 _ rfl
  have c03 : w2.cell? ⟨g, 3, none⟩ = some (.int .i64 0) := HT.out.c 0 _ rfl 3 _ rfl
  go_wp2_with fail
  go_ret
  exact ⟨rfl, HB2.out⟩

set_option maxRecDepth 100000 in
set_option maxHeartbeats 600000 in
theorem signs_hash (c : Nat) (hc : c < 256) (h1 : c = 35) (w : World) (hg : Handle w) : Calls Tryd.prog 8 #[.int .u8 (c : Int)] w fun e w' => e = .returned (.bool true) ∧ Below w.heap.size w w' := by
  have HG := Lib.hid hg
  have hk := conv_byte c hc
  have hs : P.scanAll (bt c) = .ok [⟨0, 1, ByteArray.empty, 0⟩] := by
    rw [scan_byte c hc]
    unfold expect
    rw [if_pos (by omega)]
  have HS := Lib.hid hs
  clear hs hg
  have f_eq32 : (((c : Nat) : Int) == 32) = false := by rw [beq_eq_false_iff_ne]; omega
  have f_eq9 : (((c : Nat) : Int) == 9) = false := by rw [beq_eq_false_iff_ne]; omega
  have f_eq35 : (((c : Nat) : Int) == 35) = true := by rw [beq_iff_eq]; omega
  clear h1
  go_enter Tryd.func8, Tryd.ntmps8
  go_wp2_with fail
  refine (shown_any _ HG.out).mono ?_
  rintro e w1 ⟨rfl, hb1⟩
  have HB1 := Lib.hid hb1
  clear hb1
  go_wp2_with fail
  refine (all_ok HS.out (by show 1 ≤ _; decide) _).mono ?_
  rintro e w2 ⟨g, cap, rfl, _, _, ht, hb2⟩
  have HT := Lib.hid ht
  have HB2 := Lib.hid (HB1.out.trans (((Below.refl _ _).alloc (Nat.le_refl _) _).trans (hb2.mono (by simp))|>.mono HB1.out.size))
  clear ht hb2
  simp only [List.length_cons, List.length_nil, Nat.zero_add]
  go_wp2_with fail
  refine (fault_nil _).mono ?_
  rintro e w3 ⟨rfl, h3⟩
  obtain rfl : w2 = w3 := h3.symm
  have c00 : w2.cell? ⟨g, 0, none⟩ = some (.int .i64 0) := HT.out.c 0 _ rfl 0 _ rfl
  have c01 : w2.cell? ⟨g, 1, none⟩ = some (.int .i64 1) := HT.out.c 0 _ rfl 1 _ rfl
  have c02 : w2.cell? ⟨g, 2, none⟩ = some (.string ⟨#[]⟩) := HT.out.c 0 _ rfl 2 _ rfl
  have c03 : w2.cell? ⟨g, 3, none⟩ = some (.int .i64 0) := HT.out.c 0 _ rfl 3 _ rfl
  go_wp2_with fail
  go_ret
  exact ⟨rfl, HB2.out⟩

set_option maxRecDepth 100000 in
set_option maxHeartbeats 600000 in
theorem signs_nl (c : Nat) (hc : c < 256) (h1 : c = 10) (w : World) (hg : Handle w) : Calls Tryd.prog 8 #[.int .u8 (c : Int)] w fun e w' => e = .returned (.bool true) ∧ Below w.heap.size w w' := by
  have HG := Lib.hid hg
  have hk := conv_byte c hc
  have hs : P.scanAll (bt c) = .ok [⟨1, 0, bt c, 0⟩, ⟨0, 1, ByteArray.empty, 0⟩] := by
    rw [scan_byte c hc]
    unfold expect
    rw [if_neg (by (try rw [small_iff]); (try rw [capital_iff]); (try rw [digit_iff]); (try rw [sign_iff]); omega), if_pos (by omega)]
  have HS := Lib.hid hs
  clear hs hg
  have f_eq32 : (((c : Nat) : Int) == 32) = false := by rw [beq_eq_false_iff_ne]; omega
  have f_eq9 : (((c : Nat) : Int) == 9) = false := by rw [beq_eq_false_iff_ne]; omega
  have f_eq35 : (((c : Nat) : Int) == 35) = false := by rw [beq_eq_false_iff_ne]; omega
  have f_eq10 : (((c : Nat) : Int) == 10) = true := by rw [beq_iff_eq]; omega
  clear h1
  go_enter Tryd.func8, Tryd.ntmps8
  go_wp2_with fail
  refine (shown_any _ HG.out).mono ?_
  rintro e w1 ⟨rfl, hb1⟩
  have HB1 := Lib.hid hb1
  clear hb1
  go_wp2_with fail
  refine (all_ok HS.out (by show 1 ≤ _; decide) _).mono ?_
  rintro e w2 ⟨g, cap, rfl, _, _, ht, hb2⟩
  have HT := Lib.hid ht
  have HB2 := Lib.hid (HB1.out.trans (((Below.refl _ _).alloc (Nat.le_refl _) _).trans (hb2.mono (by simp))|>.mono HB1.out.size))
  clear ht hb2
  simp only [List.length_cons, List.length_nil, Nat.zero_add, Nat.reduceAdd]
  go_wp2_with fail
  refine (fault_nil _).mono ?_
  rintro e w3 ⟨rfl, h3⟩
  obtain rfl : w2 = w3 := h3.symm
  have c00 : w2.cell? ⟨g, 0, none⟩ = some (.int .i64 1) := HT.out.c 0 _ rfl 0 _ rfl
  have c01 : w2.cell? ⟨g, 1, none⟩ = some (.int .i64 0) := HT.out.c 0 _ rfl 1 _ rfl
  have c02 : w2.cell? ⟨g, 2, none⟩ = some (.string (bt c)) := HT.out.c 0 _ rfl 2 _ rfl
  have c03 : w2.cell? ⟨g, 3, none⟩ = some (.int .i64 0) := HT.out.c 0 _ rfl 3 _ rfl
  have hlt := HT.out.lt
  have hne : g ≠ w2.heap.size := Nat.ne_of_lt hlt
  go_wp2_with fail
  go_big_region
  all_goals go_wp2_with fail
  all_goals go_ret
  all_goals exact ⟨rfl, by first | exact below_drew (HB2.out.alloc HB2.out.size _) | exact (below_drew HB2.out).alloc HB2.out.size _⟩

set_option maxRecDepth 100000 in
set_option maxHeartbeats 600000 in
theorem signs_small (c : Nat) (hc : c < 256) (h1 : 97 ≤ c) (h2 : c ≤ 122) (w : World) (hg : Handle w) : Calls Tryd.prog 8 #[.int .u8 (c : Int)] w fun e w' => e = .returned (.bool true) ∧ Below w.heap.size w w' := by
  have HG := Lib.hid hg
  have hk := conv_byte c hc
  have hs : P.scanAll (bt c) = .ok [⟨2, 0, bt c, 0⟩, ⟨0, 1, ByteArray.empty, 0⟩] := by
    rw [scan_byte c hc]
    unfold expect
    rw [if_neg (by (try rw [small_iff]); (try rw [capital_iff]); (try rw [digit_iff]); (try rw [sign_iff]); omega), if_neg (by (try rw [small_iff]); (try rw [capital_iff]); (try rw [digit_iff]); (try rw [sign_iff]); omega), if_pos (by rw [small_iff]; omega)]
  have HS := Lib.hid hs
  clear hs hg
  have f_eq32 : (((c : Nat) : Int) == 32) = false := by rw [beq_eq_false_iff_ne]; omega
  have f_eq9 : (((c : Nat) : Int) == 9) = false := by rw [beq_eq_false_iff_ne]; omega
  have f_eq35 : (((c : Nat) : Int) == 35) = false := by rw [beq_eq_false_iff_ne]; omega
  have f_eq10 : (((c : Nat) : Int) == 10) = false := by rw [beq_eq_false_iff_ne]; omega
  have f_ge97 : decide (97 ≤ (c : Int)) = true := decide_eq_true (by omega)
  have f_le122 : decide ((c : Int) ≤ 122) = true := decide_eq_true (by omega)
  go_enter Tryd.func8, Tryd.ntmps8
  go_wp2_with fail
  refine (shown_any _ HG.out).mono ?_
  rintro e w1 ⟨rfl, hb1⟩
  have HB1 := Lib.hid hb1
  clear hb1
  go_wp2_with fail
  refine (all_ok HS.out (by show 1 ≤ _; decide) _).mono ?_
  rintro e w2 ⟨g, cap, rfl, _, _, ht, hb2⟩
  have HT := Lib.hid ht
  have HB2 := Lib.hid (HB1.out.trans (((Below.refl _ _).alloc (Nat.le_refl _) _).trans (hb2.mono (by simp))|>.mono HB1.out.size))
  clear ht hb2
  simp only [List.length_cons, List.length_nil, Nat.zero_add, Nat.reduceAdd]
  go_wp2_with fail
  refine (fault_nil _).mono ?_
  rintro e w3 ⟨rfl, h3⟩
  obtain rfl : w2 = w3 := h3.symm
  have c00 : w2.cell? ⟨g, 0, none⟩ = some (.int .i64 2) := HT.out.c 0 _ rfl 0 _ rfl
  have c01 : w2.cell? ⟨g, 1, none⟩ = some (.int .i64 0) := HT.out.c 0 _ rfl 1 _ rfl
  have c02 : w2.cell? ⟨g, 2, none⟩ = some (.string (bt c)) := HT.out.c 0 _ rfl 2 _ rfl
  have c03 : w2.cell? ⟨g, 3, none⟩ = some (.int .i64 0) := HT.out.c 0 _ rfl 3 _ rfl
  have hlt := HT.out.lt
  have hne : g ≠ w2.heap.size := Nat.ne_of_lt hlt
  go_wp2_with fail
  go_big_region
  all_goals go_wp2_with fail
  all_goals go_ret
  all_goals exact ⟨rfl, by first | exact below_drew (HB2.out.alloc HB2.out.size _) | exact (below_drew HB2.out).alloc HB2.out.size _⟩

set_option maxRecDepth 100000 in
set_option maxHeartbeats 600000 in
theorem signs_capital (c : Nat) (hc : c < 256) (h1 : 65 ≤ c) (h2 : c ≤ 90) (w : World) (hg : Handle w) : Calls Tryd.prog 8 #[.int .u8 (c : Int)] w fun e w' => e = .returned (.bool true) ∧ Below w.heap.size w w' := by
  have HG := Lib.hid hg
  have hk := conv_byte c hc
  have hs : P.scanAll (bt c) = .ok [⟨3, 0, bt c, 0⟩, ⟨0, 1, ByteArray.empty, 0⟩] := by
    rw [scan_byte c hc]
    unfold expect
    rw [if_neg (by (try rw [small_iff]); (try rw [capital_iff]); (try rw [digit_iff]); (try rw [sign_iff]); omega), if_neg (by (try rw [small_iff]); (try rw [capital_iff]); (try rw [digit_iff]); (try rw [sign_iff]); omega), if_neg (by (try rw [small_iff]); (try rw [capital_iff]); (try rw [digit_iff]); (try rw [sign_iff]); omega), if_pos (by rw [capital_iff]; omega)]
  have HS := Lib.hid hs
  clear hs hg
  have f_eq32 : (((c : Nat) : Int) == 32) = false := by rw [beq_eq_false_iff_ne]; omega
  have f_eq9 : (((c : Nat) : Int) == 9) = false := by rw [beq_eq_false_iff_ne]; omega
  have f_eq35 : (((c : Nat) : Int) == 35) = false := by rw [beq_eq_false_iff_ne]; omega
  have f_eq10 : (((c : Nat) : Int) == 10) = false := by rw [beq_eq_false_iff_ne]; omega
  have f_ge97 : decide (97 ≤ (c : Int)) = false := decide_eq_false (by omega)
  have f_ge65 : decide (65 ≤ (c : Int)) = true := decide_eq_true (by omega)
  have f_le90 : decide ((c : Int) ≤ 90) = true := decide_eq_true (by omega)
  go_enter Tryd.func8, Tryd.ntmps8
  go_wp2_with fail
  refine (shown_any _ HG.out).mono ?_
  rintro e w1 ⟨rfl, hb1⟩
  have HB1 := Lib.hid hb1
  clear hb1
  go_wp2_with fail
  refine (all_ok HS.out (by show 1 ≤ _; decide) _).mono ?_
  rintro e w2 ⟨g, cap, rfl, _, _, ht, hb2⟩
  have HT := Lib.hid ht
  have HB2 := Lib.hid (HB1.out.trans (((Below.refl _ _).alloc (Nat.le_refl _) _).trans (hb2.mono (by simp))|>.mono HB1.out.size))
  clear ht hb2
  simp only [List.length_cons, List.length_nil, Nat.zero_add, Nat.reduceAdd]
  go_wp2_with fail
  refine (fault_nil _).mono ?_
  rintro e w3 ⟨rfl, h3⟩
  obtain rfl : w2 = w3 := h3.symm
  have c00 : w2.cell? ⟨g, 0, none⟩ = some (.int .i64 3) := HT.out.c 0 _ rfl 0 _ rfl
  have c01 : w2.cell? ⟨g, 1, none⟩ = some (.int .i64 0) := HT.out.c 0 _ rfl 1 _ rfl
  have c02 : w2.cell? ⟨g, 2, none⟩ = some (.string (bt c)) := HT.out.c 0 _ rfl 2 _ rfl
  have c03 : w2.cell? ⟨g, 3, none⟩ = some (.int .i64 0) := HT.out.c 0 _ rfl 3 _ rfl
  have hlt := HT.out.lt
  have hne : g ≠ w2.heap.size := Nat.ne_of_lt hlt
  go_wp2_with fail
  go_big_region
  all_goals go_wp2_with fail
  all_goals go_ret
  all_goals exact ⟨rfl, by first | exact below_drew (HB2.out.alloc HB2.out.size _) | exact (below_drew HB2.out).alloc HB2.out.size _⟩

set_option maxRecDepth 100000 in
set_option maxHeartbeats 600000 in
theorem signs_digit (c : Nat) (hc : c < 256) (h1 : 48 ≤ c) (h2 : c ≤ 57) (w : World) (hg : Handle w) : Calls Tryd.prog 8 #[.int .u8 (c : Int)] w fun e w' => e = .returned (.bool true) ∧ Below w.heap.size w w' := by
  have HG := Lib.hid hg
  have hk := conv_byte c hc
  have hs : P.scanAll (bt c) = .ok [⟨4, 0, bt c, c - 48⟩, ⟨0, 1, ByteArray.empty, 0⟩] := by
    rw [scan_byte c hc]
    unfold expect
    rw [if_neg (by (try rw [small_iff]); (try rw [capital_iff]); (try rw [digit_iff]); (try rw [sign_iff]); omega), if_neg (by (try rw [small_iff]); (try rw [capital_iff]); (try rw [digit_iff]); (try rw [sign_iff]); omega), if_neg (by (try rw [small_iff]); (try rw [capital_iff]); (try rw [digit_iff]); (try rw [sign_iff]); omega), if_neg (by (try rw [small_iff]); (try rw [capital_iff]); (try rw [digit_iff]); (try rw [sign_iff]); omega), if_pos (by rw [digit_iff]; omega)]
  have HS := Lib.hid hs
  clear hs hg
  have f_eq32 : (((c : Nat) : Int) == 32) = false := by rw [beq_eq_false_iff_ne]; omega
  have f_eq9 : (((c : Nat) : Int) == 9) = false := by rw [beq_eq_false_iff_ne]; omega
  have f_eq35 : (((c : Nat) : Int) == 35) = false := by rw [beq_eq_false_iff_ne]; omega
  have f_eq10 : (((c : Nat) : Int) == 10) = false := by rw [beq_eq_false_iff_ne]; omega
  have f_ge97 : decide (97 ≤ (c : Int)) = false := decide_eq_false (by omega)
  have f_ge65 : decide (65 ≤ (c : Int)) = false := decide_eq_false (by omega)
  have f_ge48 : decide (48 ≤ (c : Int)) = true := decide_eq_true (by omega)
  have f_le57 : decide ((c : Int) ≤ 57) = true := decide_eq_true (by omega)
  go_enter Tryd.func8, Tryd.ntmps8
  go_wp2_with fail
  refine (shown_any _ HG.out).mono ?_
  rintro e w1 ⟨rfl, hb1⟩
  have HB1 := Lib.hid hb1
  clear hb1
  go_wp2_with fail
  refine (all_ok HS.out (by show 1 ≤ _; decide) _).mono ?_
  rintro e w2 ⟨g, cap, rfl, _, _, ht, hb2⟩
  have HT := Lib.hid ht
  have HB2 := Lib.hid (HB1.out.trans (((Below.refl _ _).alloc (Nat.le_refl _) _).trans (hb2.mono (by simp))|>.mono HB1.out.size))
  clear ht hb2
  simp only [List.length_cons, List.length_nil, Nat.zero_add, Nat.reduceAdd]
  go_wp2_with fail
  refine (fault_nil _).mono ?_
  rintro e w3 ⟨rfl, h3⟩
  obtain rfl : w2 = w3 := h3.symm
  have c00 : w2.cell? ⟨g, 0, none⟩ = some (.int .i64 4) := HT.out.c 0 _ rfl 0 _ rfl
  have c01 : w2.cell? ⟨g, 1, none⟩ = some (.int .i64 0) := HT.out.c 0 _ rfl 1 _ rfl
  have c02 : w2.cell? ⟨g, 2, none⟩ = some (.string (bt c)) := HT.out.c 0 _ rfl 2 _ rfl
  have c03 : w2.cell? ⟨g, 3, none⟩ = some (.int .i64 ((c - 48 : Nat) : Int)) := HT.out.c 0 _ rfl 3 _ rfl
  have hlt := HT.out.lt
  have hne : g ≠ w2.heap.size := Nat.ne_of_lt hlt
  go_wp2_with fail
  go_big_region
  all_goals go_wp2_with fail
  all_goals go_ret
  all_goals exact ⟨rfl, by first | exact below_drew (HB2.out.alloc HB2.out.size _) | exact (below_drew HB2.out).alloc HB2.out.size _⟩

set_option maxRecDepth 100000 in
set_option maxHeartbeats 600000 in
theorem signs_sgA (c : Nat) (hc : c < 256) (h1 : 33 ≤ c) (h2 : c ≤ 47) (h3 : c ≠ 35) (w : World) (hg : Handle w) : Calls Tryd.prog 8 #[.int .u8 (c : Int)] w fun e w' => e = .returned (.bool true) ∧ Below w.heap.size w w' := by
  have HG := Lib.hid hg
  have hk := conv_byte c hc
  have hs : P.scanAll (bt c) = .ok [⟨5, 0, bt c, 0⟩, ⟨0, 1, ByteArray.empty, 0⟩] := by
    rw [scan_byte c hc]
    unfold expect
    rw [if_neg (by (try rw [small_iff]); (try rw [capital_iff]); (try rw [digit_iff]); (try rw [sign_iff]); omega), if_neg (by (try rw [small_iff]); (try rw [capital_iff]); (try rw [digit_iff]); (try rw [sign_iff]); omega), if_neg (by (try rw [small_iff]); (try rw [capital_iff]); (try rw [digit_iff]); (try rw [sign_iff]); omega), if_neg (by (try rw [small_iff]); (try rw [capital_iff]); (try rw [digit_iff]); (try rw [sign_iff]); omega), if_neg (by (try rw [small_iff]); (try rw [capital_iff]); (try rw [digit_iff]); (try rw [sign_iff]); omega), if_pos (by rw [sign_iff]; omega)]
  have HS := Lib.hid hs
  clear hs hg
  have f_eq32 : (((c : Nat) : Int) == 32) = false := by rw [beq_eq_false_iff_ne]; omega
  have f_eq9 : (((c : Nat) : Int) == 9) = false := by rw [beq_eq_false_iff_ne]; omega
  have f_eq35 : (((c : Nat) : Int) == 35) = false := by rw [beq_eq_false_iff_ne]; omega
  have f_eq10 : (((c : Nat) : Int) == 10) = false := by rw [beq_eq_false_iff_ne]; omega
  have f_ge97 : decide (97 ≤ (c : Int)) = false := decide_eq_false (by omega)
  have f_ge65 : decide (65 ≤ (c : Int)) = false := decide_eq_false (by omega)
  have f_ge48 : decide (48 ≤ (c : Int)) = false := decide_eq_false (by omega)
  have f_ge33 : decide (33 ≤ (c : Int)) = true := decide_eq_true (by omega)
  have f_le126 : decide ((c : Int) ≤ 126) = true := decide_eq_true (by omega)
  have f_ne95 : (((c : Nat) : Int) != 95) = true := by rw [bne_iff_ne]; omega
  go_enter Tryd.func8, Tryd.ntmps8
  go_wp2_with fail
  refine (shown_any _ HG.out).mono ?_
  rintro e w1 ⟨rfl, hb1⟩
  have HB1 := Lib.hid hb1
  clear hb1
  go_wp2_with fail
  refine (all_ok HS.out (by show 1 ≤ _; decide) _).mono ?_
  rintro e w2 ⟨g, cap, rfl, _, _, ht, hb2⟩
  have HT := Lib.hid ht
  have HB2 := Lib.hid (HB1.out.trans (((Below.refl _ _).alloc (Nat.le_refl _) _).trans (hb2.mono (by simp))|>.mono HB1.out.size))
  clear ht hb2
  simp only [List.length_cons, List.length_nil, Nat.zero_add, Nat.reduceAdd]
  go_wp2_with fail
  refine (fault_nil _).mono ?_
  rintro e w3 ⟨rfl, h3⟩
  obtain rfl : w2 = w3 := h3.symm
  have c00 : w2.cell? ⟨g, 0, none⟩ = some (.int .i64 5) := HT.out.c 0 _ rfl 0 _ rfl
  have c01 : w2.cell? ⟨g, 1, none⟩ = some (.int .i64 0) := HT.out.c 0 _ rfl 1 _ rfl
  have c02 : w2.cell? ⟨g, 2, none⟩ = some (.string (bt c)) := HT.out.c 0 _ rfl 2 _ rfl
  have c03 : w2.cell? ⟨g, 3, none⟩ = some (.int .i64 0) := HT.out.c 0 _ rfl 3 _ rfl
  have hlt := HT.out.lt
  have hne : g ≠ w2.heap.size := Nat.ne_of_lt hlt
  go_wp2_with fail
  go_big_region
  all_goals go_wp2_with fail
  all_goals go_ret
  all_goals exact ⟨rfl, by first | exact below_drew (HB2.out.alloc HB2.out.size _) | exact (below_drew HB2.out).alloc HB2.out.size _⟩

set_option maxRecDepth 100000 in
set_option maxHeartbeats 600000 in
theorem signs_sgB (c : Nat) (hc : c < 256) (h1 : 58 ≤ c) (h2 : c ≤ 64) (w : World) (hg : Handle w) : Calls Tryd.prog 8 #[.int .u8 (c : Int)] w fun e w' => e = .returned (.bool true) ∧ Below w.heap.size w w' := by
  have HG := Lib.hid hg
  have hk := conv_byte c hc
  have hs : P.scanAll (bt c) = .ok [⟨5, 0, bt c, 0⟩, ⟨0, 1, ByteArray.empty, 0⟩] := by
    rw [scan_byte c hc]
    unfold expect
    rw [if_neg (by (try rw [small_iff]); (try rw [capital_iff]); (try rw [digit_iff]); (try rw [sign_iff]); omega), if_neg (by (try rw [small_iff]); (try rw [capital_iff]); (try rw [digit_iff]); (try rw [sign_iff]); omega), if_neg (by (try rw [small_iff]); (try rw [capital_iff]); (try rw [digit_iff]); (try rw [sign_iff]); omega), if_neg (by (try rw [small_iff]); (try rw [capital_iff]); (try rw [digit_iff]); (try rw [sign_iff]); omega), if_neg (by (try rw [small_iff]); (try rw [capital_iff]); (try rw [digit_iff]); (try rw [sign_iff]); omega), if_pos (by rw [sign_iff]; omega)]
  have HS := Lib.hid hs
  clear hs hg
  have f_eq32 : (((c : Nat) : Int) == 32) = false := by rw [beq_eq_false_iff_ne]; omega
  have f_eq9 : (((c : Nat) : Int) == 9) = false := by rw [beq_eq_false_iff_ne]; omega
  have f_eq35 : (((c : Nat) : Int) == 35) = false := by rw [beq_eq_false_iff_ne]; omega
  have f_eq10 : (((c : Nat) : Int) == 10) = false := by rw [beq_eq_false_iff_ne]; omega
  have f_ge97 : decide (97 ≤ (c : Int)) = false := decide_eq_false (by omega)
  have f_ge65 : decide (65 ≤ (c : Int)) = false := decide_eq_false (by omega)
  have f_ge48 : decide (48 ≤ (c : Int)) = true := decide_eq_true (by omega)
  have f_le57 : decide ((c : Int) ≤ 57) = false := decide_eq_false (by omega)
  have f_ge33 : decide (33 ≤ (c : Int)) = true := decide_eq_true (by omega)
  have f_le126 : decide ((c : Int) ≤ 126) = true := decide_eq_true (by omega)
  have f_ne95 : (((c : Nat) : Int) != 95) = true := by rw [bne_iff_ne]; omega
  go_enter Tryd.func8, Tryd.ntmps8
  go_wp2_with fail
  refine (shown_any _ HG.out).mono ?_
  rintro e w1 ⟨rfl, hb1⟩
  have HB1 := Lib.hid hb1
  clear hb1
  go_wp2_with fail
  refine (all_ok HS.out (by show 1 ≤ _; decide) _).mono ?_
  rintro e w2 ⟨g, cap, rfl, _, _, ht, hb2⟩
  have HT := Lib.hid ht
  have HB2 := Lib.hid (HB1.out.trans (((Below.refl _ _).alloc (Nat.le_refl _) _).trans (hb2.mono (by simp))|>.mono HB1.out.size))
  clear ht hb2
  simp only [List.length_cons, List.length_nil, Nat.zero_add, Nat.reduceAdd]
  go_wp2_with fail
  refine (fault_nil _).mono ?_
  rintro e w3 ⟨rfl, h3⟩
  obtain rfl : w2 = w3 := h3.symm
  have c00 : w2.cell? ⟨g, 0, none⟩ = some (.int .i64 5) := HT.out.c 0 _ rfl 0 _ rfl
  have c01 : w2.cell? ⟨g, 1, none⟩ = some (.int .i64 0) := HT.out.c 0 _ rfl 1 _ rfl
  have c02 : w2.cell? ⟨g, 2, none⟩ = some (.string (bt c)) := HT.out.c 0 _ rfl 2 _ rfl
  have c03 : w2.cell? ⟨g, 3, none⟩ = some (.int .i64 0) := HT.out.c 0 _ rfl 3 _ rfl
  have hlt := HT.out.lt
  have hne : g ≠ w2.heap.size := Nat.ne_of_lt hlt
  go_wp2_with fail
  go_big_region
  all_goals go_wp2_with fail
  all_goals go_ret
  all_goals exact ⟨rfl, by first | exact below_drew (HB2.out.alloc HB2.out.size _) | exact (below_drew HB2.out).alloc HB2.out.size _⟩

set_option maxRecDepth 100000 in
set_option maxHeartbeats 600000 in
theorem signs_sgC (c : Nat) (hc : c < 256) (h1 : 91 ≤ c) (h2 : c ≤ 96) (h3 : c ≠ 95) (w : World) (hg : Handle w) : Calls Tryd.prog 8 #[.int .u8 (c : Int)] w fun e w' => e = .returned (.bool true) ∧ Below w.heap.size w w' := by
  have HG := Lib.hid hg
  have hk := conv_byte c hc
  have hs : P.scanAll (bt c) = .ok [⟨5, 0, bt c, 0⟩, ⟨0, 1, ByteArray.empty, 0⟩] := by
    rw [scan_byte c hc]
    unfold expect
    rw [if_neg (by (try rw [small_iff]); (try rw [capital_iff]); (try rw [digit_iff]); (try rw [sign_iff]); omega), if_neg (by (try rw [small_iff]); (try rw [capital_iff]); (try rw [digit_iff]); (try rw [sign_iff]); omega), if_neg (by (try rw [small_iff]); (try rw [capital_iff]); (try rw [digit_iff]); (try rw [sign_iff]); omega), if_neg (by (try rw [small_iff]); (try rw [capital_iff]); (try rw [digit_iff]); (try rw [sign_iff]); omega), if_neg (by (try rw [small_iff]); (try rw [capital_iff]); (try rw [digit_iff]); (try rw [sign_iff]); omega), if_pos (by rw [sign_iff]; omega)]
  have HS := Lib.hid hs
  clear hs hg
  have f_eq32 : (((c : Nat) : Int) == 32) = false := by rw [beq_eq_false_iff_ne]; omega
  have f_eq9 : (((c : Nat) : Int) == 9) = false := by rw [beq_eq_false_iff_ne]; omega
  have f_eq35 : (((c : Nat) : Int) == 35) = false := by rw [beq_eq_false_iff_ne]; omega
  have f_eq10 : (((c : Nat) : Int) == 10) = false := by rw [beq_eq_false_iff_ne]; omega
  have f_ge97 : decide (97 ≤ (c : Int)) = false := decide_eq_false (by omega)
  have f_ge65 : decide (65 ≤ (c : Int)) = true := decide_eq_true (by omega)
  have f_le90 : decide ((c : Int) ≤ 90) = false := decide_eq_false (by omega)
  have f_ge48 : decide (48 ≤ (c : Int)) = true := decide_eq_true (by omega)
  have f_le57 : decide ((c : Int) ≤ 57) = false := decide_eq_false (by omega)
  have f_ge33 : decide (33 ≤ (c : Int)) = true := decide_eq_true (by omega)
  have f_le126 : decide ((c : Int) ≤ 126) = true := decide_eq_true (by omega)
  have f_ne95 : (((c : Nat) : Int) != 95) = true := by rw [bne_iff_ne]; omega
  go_enter Tryd.func8, Tryd.ntmps8
  go_wp2_with fail
  refine (shown_any _ HG.out).mono ?_
  rintro e w1 ⟨rfl, hb1⟩
  have HB1 := Lib.hid hb1
  clear hb1
  go_wp2_with fail
  refine (all_ok HS.out (by show 1 ≤ _; decide) _).mono ?_
  rintro e w2 ⟨g, cap, rfl, _, _, ht, hb2⟩
  have HT := Lib.hid ht
  have HB2 := Lib.hid (HB1.out.trans (((Below.refl _ _).alloc (Nat.le_refl _) _).trans (hb2.mono (by simp))|>.mono HB1.out.size))
  clear ht hb2
  simp only [List.length_cons, List.length_nil, Nat.zero_add, Nat.reduceAdd]
  go_wp2_with fail
  refine (fault_nil _).mono ?_
  rintro e w3 ⟨rfl, h3⟩
  obtain rfl : w2 = w3 := h3.symm
  have c00 : w2.cell? ⟨g, 0, none⟩ = some (.int .i64 5) := HT.out.c 0 _ rfl 0 _ rfl
  have c01 : w2.cell? ⟨g, 1, none⟩ = some (.int .i64 0) := HT.out.c 0 _ rfl 1 _ rfl
  have c02 : w2.cell? ⟨g, 2, none⟩ = some (.string (bt c)) := HT.out.c 0 _ rfl 2 _ rfl
  have c03 : w2.cell? ⟨g, 3, none⟩ = some (.int .i64 0) := HT.out.c 0 _ rfl 3 _ rfl
  have hlt := HT.out.lt
  have hne : g ≠ w2.heap.size := Nat.ne_of_lt hlt
  go_wp2_with fail
  go_big_region
  all_goals go_wp2_with fail
  all_goals go_ret
  all_goals exact ⟨rfl, by first | exact below_drew (HB2.out.alloc HB2.out.size _) | exact (below_drew HB2.out).alloc HB2.out.size _⟩

set_option maxRecDepth 100000 in
set_option maxHeartbeats 600000 in
theorem signs_sgD (c : Nat) (hc : c < 256) (h1 : 123 ≤ c) (h2 : c ≤ 126) (w : World) (hg : Handle w) : Calls Tryd.prog 8 #[.int .u8 (c : Int)] w fun e w' => e = .returned (.bool true) ∧ Below w.heap.size w w' := by
  have HG := Lib.hid hg
  have hk := conv_byte c hc
  have hs : P.scanAll (bt c) = .ok [⟨5, 0, bt c, 0⟩, ⟨0, 1, ByteArray.empty, 0⟩] := by
    rw [scan_byte c hc]
    unfold expect
    rw [if_neg (by (try rw [small_iff]); (try rw [capital_iff]); (try rw [digit_iff]); (try rw [sign_iff]); omega), if_neg (by (try rw [small_iff]); (try rw [capital_iff]); (try rw [digit_iff]); (try rw [sign_iff]); omega), if_neg (by (try rw [small_iff]); (try rw [capital_iff]); (try rw [digit_iff]); (try rw [sign_iff]); omega), if_neg (by (try rw [small_iff]); (try rw [capital_iff]); (try rw [digit_iff]); (try rw [sign_iff]); omega), if_neg (by (try rw [small_iff]); (try rw [capital_iff]); (try rw [digit_iff]); (try rw [sign_iff]); omega), if_pos (by rw [sign_iff]; omega)]
  have HS := Lib.hid hs
  clear hs hg
  have f_eq32 : (((c : Nat) : Int) == 32) = false := by rw [beq_eq_false_iff_ne]; omega
  have f_eq9 : (((c : Nat) : Int) == 9) = false := by rw [beq_eq_false_iff_ne]; omega
  have f_eq35 : (((c : Nat) : Int) == 35) = false := by rw [beq_eq_false_iff_ne]; omega
  have f_eq10 : (((c : Nat) : Int) == 10) = false := by rw [beq_eq_false_iff_ne]; omega
  have f_ge97 : decide (97 ≤ (c : Int)) = true := decide_eq_true (by omega)
  have f_le122 : decide ((c : Int) ≤ 122) = false := decide_eq_false (by omega)
  have f_ge65 : decide (65 ≤ (c : Int)) = true := decide_eq_true (by omega)
  have f_le90 : decide ((c : Int) ≤ 90) = false := decide_eq_false (by omega)
  have f_ge48 : decide (48 ≤ (c : Int)) = true := decide_eq_true (by omega)
  have f_le57 : decide ((c : Int) ≤ 57) = false := decide_eq_false (by omega)
  have f_ge33 : decide (33 ≤ (c : Int)) = true := decide_eq_true (by omega)
  have f_le126 : decide ((c : Int) ≤ 126) = true := decide_eq_true (by omega)
  have f_ne95 : (((c : Nat) : Int) != 95) = true := by rw [bne_iff_ne]; omega
  go_enter Tryd.func8, Tryd.ntmps8
  go_wp2_with fail
  refine (shown_any _ HG.out).mono ?_
  rintro e w1 ⟨rfl, hb1⟩
  have HB1 := Lib.hid hb1
  clear hb1
  go_wp2_with fail
  refine (all_ok HS.out (by show 1 ≤ _; decide) _).mono ?_
  rintro e w2 ⟨g, cap, rfl, _, _, ht, hb2⟩
  have HT := Lib.hid ht
  have HB2 := Lib.hid (HB1.out.trans (((Below.refl _ _).alloc (Nat.le_refl _) _).trans (hb2.mono (by simp))|>.mono HB1.out.size))
  clear ht hb2
  simp only [List.length_cons, List.length_nil, Nat.zero_add, Nat.reduceAdd]
  go_wp2_with fail
  refine (fault_nil _).mono ?_
  rintro e w3 ⟨rfl, h3⟩
  obtain rfl : w2 = w3 := h3.symm
  have c00 : w2.cell? ⟨g, 0, none⟩ = some (.int .i64 5) := HT.out.c 0 _ rfl 0 _ rfl
  have c01 : w2.cell? ⟨g, 1, none⟩ = some (.int .i64 0) := HT.out.c 0 _ rfl 1 _ rfl
  have c02 : w2.cell? ⟨g, 2, none⟩ = some (.string (bt c)) := HT.out.c 0 _ rfl 2 _ rfl
  have c03 : w2.cell? ⟨g, 3, none⟩ = some (.int .i64 0) := HT.out.c 0 _ rfl 3 _ rfl
  have hlt := HT.out.lt
  have hne : g ≠ w2.heap.size := Nat.ne_of_lt hlt
  go_wp2_with fail
  go_big_region
  all_goals go_wp2_with fail
  all_goals go_ret
  all_goals exact ⟨rfl, by first | exact below_drew (HB2.out.alloc HB2.out.size _) | exact (below_drew HB2.out).alloc HB2.out.size _⟩

set_option maxRecDepth 100000 in
set_option maxHeartbeats 600000 in
theorem signs_noA (c : Nat) (hc : c < 256) (h1 : c ≤ 32) (h2 : c ≠ 32) (h3 : c ≠ 9) (h4 : c ≠ 10) (w : World) (hg : Handle w) : Calls Tryd.prog 8 #[.int .u8 (c : Int)] w fun e w' => e = .returned (.bool true) ∧ Below w.heap.size w w' := by
  have HG := Lib.hid hg
  have hk := conv_byte c hc
  have hs : P.scanAll (bt c) = .error (0, 3) := by
    rw [scan_byte c hc]
    unfold expect
    rw [if_neg (by (try rw [small_iff]); (try rw [capital_iff]); (try rw [digit_iff]); (try rw [sign_iff]); omega), if_neg (by (try rw [small_iff]); (try rw [capital_iff]); (try rw [digit_iff]); (try rw [sign_iff]); omega), if_neg (by (try rw [small_iff]); (try rw [capital_iff]); (try rw [digit_iff]); (try rw [sign_iff]); omega), if_neg (by (try rw [small_iff]); (try rw [capital_iff]); (try rw [digit_iff]); (try rw [sign_iff]); omega), if_neg (by (try rw [small_iff]); (try rw [capital_iff]); (try rw [digit_iff]); (try rw [sign_iff]); omega), if_neg (by (try rw [small_iff]); (try rw [capital_iff]); (try rw [digit_iff]); (try rw [sign_iff]); omega)]
  have HS := Lib.hid hs
  clear hs hg
  have f_eq32 : (((c : Nat) : Int) == 32) = false := by rw [beq_eq_false_iff_ne]; omega
  have f_eq9 : (((c : Nat) : Int) == 9) = false := by rw [beq_eq_false_iff_ne]; omega
  have f_eq35 : (((c : Nat) : Int) == 35) = false := by rw [beq_eq_false_iff_ne]; omega
  have f_eq10 : (((c : Nat) : Int) == 10) = false := by rw [beq_eq_false_iff_ne]; omega
  have f_ge97 : decide (97 ≤ (c : Int)) = false := decide_eq_false (by omega)
  have f_ge65 : decide (65 ≤ (c : Int)) = false := decide_eq_false (by omega)
  have f_ge48 : decide (48 ≤ (c : Int)) = false := decide_eq_false (by omega)
  have f_ge33 : decide (33 ≤ (c : Int)) = false := decide_eq_false (by omega)
  go_enter Tryd.func8, Tryd.ntmps8
  go_wp2_with fail
  refine (shown_any _ HG.out).mono ?_
  rintro e w1 ⟨rfl, hb1⟩
  have HB1 := Lib.hid hb1
  clear hb1
  go_wp2_with fail
  refine (all_bad HS.out (by show 1 ≤ _; decide) _).mono ?_
  rintro e w2 ⟨g, rfl, hf, hb2⟩
  have HB2 := Lib.hid (HB1.out.trans (((Below.refl _ _).alloc (Nat.le_refl _) _).trans (hb2.mono (by simp))|>.mono HB1.out.size))
  have HF := Lib.hid hf
  clear hf hb2
  go_wp2_with fail
  refine (fault_at g 0 3 _ HF.out (HG.out.on HB2.out)).mono ?_
  rintro e w3 ⟨rfl, hb3⟩
  have HB3 := Lib.hid (HB2.out.trans (hb3.mono HB2.out.size))
  clear hb3
  go_wp2_with fail
  go_ret
  exact ⟨rfl, HB3.out⟩

set_option maxRecDepth 100000 in
set_option maxHeartbeats 600000 in
theorem signs_noB (c : Nat) (hc : c < 256) (h1 : c = 95) (w : World) (hg : Handle w) : Calls Tryd.prog 8 #[.int .u8 (c : Int)] w fun e w' => e = .returned (.bool true) ∧ Below w.heap.size w w' := by
  have HG := Lib.hid hg
  have hk := conv_byte c hc
  have hs : P.scanAll (bt c) = .error (0, 3) := by
    rw [scan_byte c hc]
    unfold expect
    rw [if_neg (by (try rw [small_iff]); (try rw [capital_iff]); (try rw [digit_iff]); (try rw [sign_iff]); omega), if_neg (by (try rw [small_iff]); (try rw [capital_iff]); (try rw [digit_iff]); (try rw [sign_iff]); omega), if_neg (by (try rw [small_iff]); (try rw [capital_iff]); (try rw [digit_iff]); (try rw [sign_iff]); omega), if_neg (by (try rw [small_iff]); (try rw [capital_iff]); (try rw [digit_iff]); (try rw [sign_iff]); omega), if_neg (by (try rw [small_iff]); (try rw [capital_iff]); (try rw [digit_iff]); (try rw [sign_iff]); omega), if_neg (by (try rw [small_iff]); (try rw [capital_iff]); (try rw [digit_iff]); (try rw [sign_iff]); omega)]
  have HS := Lib.hid hs
  clear hs hg
  have f_eq32 : (((c : Nat) : Int) == 32) = false := by rw [beq_eq_false_iff_ne]; omega
  have f_eq9 : (((c : Nat) : Int) == 9) = false := by rw [beq_eq_false_iff_ne]; omega
  have f_eq35 : (((c : Nat) : Int) == 35) = false := by rw [beq_eq_false_iff_ne]; omega
  have f_eq10 : (((c : Nat) : Int) == 10) = false := by rw [beq_eq_false_iff_ne]; omega
  have f_ge97 : decide (97 ≤ (c : Int)) = false := decide_eq_false (by omega)
  have f_ge65 : decide (65 ≤ (c : Int)) = true := decide_eq_true (by omega)
  have f_le90 : decide ((c : Int) ≤ 90) = false := decide_eq_false (by omega)
  have f_ge48 : decide (48 ≤ (c : Int)) = true := decide_eq_true (by omega)
  have f_le57 : decide ((c : Int) ≤ 57) = false := decide_eq_false (by omega)
  have f_ge33 : decide (33 ≤ (c : Int)) = true := decide_eq_true (by omega)
  have f_le126 : decide ((c : Int) ≤ 126) = true := decide_eq_true (by omega)
  have f_ne95 : (((c : Nat) : Int) != 95) = false := by rw [bne_eq_false_iff_eq]; omega
  clear h1
  go_enter Tryd.func8, Tryd.ntmps8
  go_wp2_with fail
  refine (shown_any _ HG.out).mono ?_
  rintro e w1 ⟨rfl, hb1⟩
  have HB1 := Lib.hid hb1
  clear hb1
  go_wp2_with fail
  refine (all_bad HS.out (by show 1 ≤ _; decide) _).mono ?_
  rintro e w2 ⟨g, rfl, hf, hb2⟩
  have HB2 := Lib.hid (HB1.out.trans (((Below.refl _ _).alloc (Nat.le_refl _) _).trans (hb2.mono (by simp))|>.mono HB1.out.size))
  have HF := Lib.hid hf
  clear hf hb2
  go_wp2_with fail
  refine (fault_at g 0 3 _ HF.out (HG.out.on HB2.out)).mono ?_
  rintro e w3 ⟨rfl, hb3⟩
  have HB3 := Lib.hid (HB2.out.trans (hb3.mono HB2.out.size))
  clear hb3
  go_wp2_with fail
  go_ret
  exact ⟨rfl, HB3.out⟩

set_option maxRecDepth 100000 in
set_option maxHeartbeats 600000 in
theorem signs_noC (c : Nat) (hc : c < 256) (h1 : 127 ≤ c) (w : World) (hg : Handle w) : Calls Tryd.prog 8 #[.int .u8 (c : Int)] w fun e w' => e = .returned (.bool true) ∧ Below w.heap.size w w' := by
  have HG := Lib.hid hg
  have hk := conv_byte c hc
  have hs : P.scanAll (bt c) = .error (0, 3) := by
    rw [scan_byte c hc]
    unfold expect
    rw [if_neg (by (try rw [small_iff]); (try rw [capital_iff]); (try rw [digit_iff]); (try rw [sign_iff]); omega), if_neg (by (try rw [small_iff]); (try rw [capital_iff]); (try rw [digit_iff]); (try rw [sign_iff]); omega), if_neg (by (try rw [small_iff]); (try rw [capital_iff]); (try rw [digit_iff]); (try rw [sign_iff]); omega), if_neg (by (try rw [small_iff]); (try rw [capital_iff]); (try rw [digit_iff]); (try rw [sign_iff]); omega), if_neg (by (try rw [small_iff]); (try rw [capital_iff]); (try rw [digit_iff]); (try rw [sign_iff]); omega), if_neg (by (try rw [small_iff]); (try rw [capital_iff]); (try rw [digit_iff]); (try rw [sign_iff]); omega)]
  have HS := Lib.hid hs
  clear hs hg
  have f_eq32 : (((c : Nat) : Int) == 32) = false := by rw [beq_eq_false_iff_ne]; omega
  have f_eq9 : (((c : Nat) : Int) == 9) = false := by rw [beq_eq_false_iff_ne]; omega
  have f_eq35 : (((c : Nat) : Int) == 35) = false := by rw [beq_eq_false_iff_ne]; omega
  have f_eq10 : (((c : Nat) : Int) == 10) = false := by rw [beq_eq_false_iff_ne]; omega
  have f_ge97 : decide (97 ≤ (c : Int)) = true := decide_eq_true (by omega)
  have f_le122 : decide ((c : Int) ≤ 122) = false := decide_eq_false (by omega)
  have f_ge65 : decide (65 ≤ (c : Int)) = true := decide_eq_true (by omega)
  have f_le90 : decide ((c : Int) ≤ 90) = false := decide_eq_false (by omega)
  have f_ge48 : decide (48 ≤ (c : Int)) = true := decide_eq_true (by omega)
  have f_le57 : decide ((c : Int) ≤ 57) = false := decide_eq_false (by omega)
  have f_ge33 : decide (33 ≤ (c : Int)) = true := decide_eq_true (by omega)
  have f_le126 : decide ((c : Int) ≤ 126) = false := decide_eq_false (by omega)
  go_enter Tryd.func8, Tryd.ntmps8
  go_wp2_with fail
  refine (shown_any _ HG.out).mono ?_
  rintro e w1 ⟨rfl, hb1⟩
  have HB1 := Lib.hid hb1
  clear hb1
  go_wp2_with fail
  refine (all_bad HS.out (by show 1 ≤ _; decide) _).mono ?_
  rintro e w2 ⟨g, rfl, hf, hb2⟩
  have HB2 := Lib.hid (HB1.out.trans (((Below.refl _ _).alloc (Nat.le_refl _) _).trans (hb2.mono (by simp))|>.mono HB1.out.size))
  have HF := Lib.hid hf
  clear hf hb2
  go_wp2_with fail
  refine (fault_at g 0 3 _ HF.out (HG.out.on HB2.out)).mono ?_
  rintro e w3 ⟨rfl, hb3⟩
  have HB3 := Lib.hid (HB2.out.trans (hb3.mono HB2.out.size))
  clear hb3
  go_wp2_with fail
  go_ret
  exact ⟨rfl, HB3.out⟩

theorem signs_any (c : Nat) (hc : c < 256) (w : World) (hg : Handle w) : Calls Tryd.prog 8 #[.int .u8 (c : Int)] w fun e w' => e = .returned (.bool true) ∧ Below w.heap.size w w' := by
  by_cases e1 : c = 32
  · exact signs_sp c hc e1 w hg
  by_cases e2 : c = 9
  · exact signs_tab c hc e2 w hg
  by_cases e3 : c = 35
  · exact signs_hash c hc e3 w hg
  by_cases e4 : c = 10
  · exact signs_nl c hc e4 w hg
  by_cases e5 : c = 95
  · exact signs_noB c hc e5 w hg
  by_cases a1 : c ≤ 32
  · exact signs_noA c hc a1 e1 e2 e4 w hg
  by_cases a2 : c ≤ 47
  · exact signs_sgA c hc (by omega) a2 e3 w hg
  by_cases a3 : c ≤ 57
  · exact signs_digit c hc (by omega) a3 w hg
  by_cases a4 : c ≤ 64
  · exact signs_sgB c hc (by omega) a4 w hg
  by_cases a5 : c ≤ 90
  · exact signs_capital c hc (by omega) a5 w hg
  by_cases a6 : c ≤ 96
  · exact signs_sgC c hc (by omega) a6 e5 w hg
  by_cases a7 : c ≤ 122
  · exact signs_small c hc (by omega) a7 w hg
  by_cases a8 : c ≤ 126
  · exact signs_sgD c hc (by omega) a8 w hg
  exact signs_noC c hc (by omega) w hg
end W
end Go.Proofs.YtbimjejidlohnaaDoor
