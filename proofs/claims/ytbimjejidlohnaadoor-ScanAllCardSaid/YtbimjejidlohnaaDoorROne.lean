/- The token that begins at a place: the document's answer. -/
import Derived.Test.YtbimjejidlohnaaDoorAll
import Derived.Laws.DeepStrings4
namespace Go.Proofs.YtbimjejidlohnaaDoor
open Go.RowKit
namespace W

set_option linter.unusedVariables false in
set_option maxRecDepth 100000 in
set_option maxHeartbeats 800000 in
theorem rone_nl (b : ByteArray) (k : Nat) (hk : k < b.size) (hb : b.size ≤ 281474976710656) (w : World) (h2 : P.small 10 = false) (h3 : P.capital 10 = false) (h4 : P.digit 10 = false) (hc : P.byt b k = 10) :
    Calls Tryd.prog 20 #[.string b, .int .i64 (k : Int)] w fun e w' => e = .returned (.tuple #[tokV ⟨1, k, b.extract k (k + 1), 0⟩, .int .i64 0]) ∧ Below w.heap.size w w' := by
  have ix := ix_byte b k hk
  have hsl := sl_any b k (k + 1) (Nat.le_succ _) hk (k : Int) ((k : Int) + 1) rfl rfl
  rw [hc] at ix
  have H2 := Lib.hid h2
  have H3 := Lib.hid h3
  have H4 := Lib.hid h4
  clear hc h2 h3 h4

  go_enter Tryd.func20, Tryd.ntmps20
  go_wp2_with (first | (go_at_call 27; refine (rsmall _ _).mono ?_; rw [H2.out]; rintro e w' ⟨rfl, rfl⟩) | (go_at_call 28; refine (rcapital _ _).mono ?_; rw [H3.out]; rintro e w' ⟨rfl, rfl⟩) | (go_at_call 29; refine (rdigit _ _).mono ?_; rw [H4.out]; rintro e w' ⟨rfl, rfl⟩) | (go_at_call 30; refine (rname b k (Nat.le_of_lt hk) hb _).mono ?_; rw [HM.out]; rintro e w' ⟨rfl, rfl⟩) | (go_at_call 31; refine (rnumber_any b k (Nat.le_of_lt hk) hb _).mono ?_; rw [HM.out, HV.out]; rintro e w' ⟨rfl, rfl⟩))
  exact bodyPost_ret (results_tok Tryd.results20 _ _ w.heap.size ⟨1, k, b.extract k (k + 1), 0⟩ rfl (heap_alloc2_old w _ _)) rfl ⟨rfl, ((Below.refl _ _).alloc (Nat.le_refl _) _).alloc (by simp) _⟩

set_option linter.unusedVariables false in
set_option maxRecDepth 100000 in
set_option maxHeartbeats 800000 in
theorem rone_small_long (b : ByteArray) (k : Nat) (hk : k < b.size) (hb : b.size ≤ 281474976710656) (w : World) (c : Nat) (hc : P.byt b k = c) (h2 : P.small c = true) (h3 : P.capital c = false) (h4 : P.digit c = false) (h1 : c ≠ 10) (m : Nat) (hm : P.ext P.inner b k = m) (hkm : k ≤ m) (hmb : m ≤ b.size) (hl : 8 < m - k) :
    Calls Tryd.prog 20 #[.string b, .int .i64 (k : Int)] w fun e w' => (∃ r, e = .returned (.tuple #[tokV r, .int .i64 5])) ∧ Below w.heap.size w w' := by
  have ix := ix_byte b k hk
  have hsl := sl_any b k (k + 1) (Nat.le_succ _) hk (k : Int) ((k : Int) + 1) rfl rfl
  rw [hc] at ix
  have H2 := Lib.hid h2
  have H3 := Lib.hid h3
  have H4 := Lib.hid h4
  have HM := Lib.hid hm
  have e1 : (((c : Nat) : Int) == 10) = false := by rw [beq_eq_false_iff_ne]; omega
  have z1 : decide ((8 : Int) < ((m - k : Nat) : Int)) = true := decide_eq_true (by omega)
  have z2 : decide (8 < m - k) = true := decide_eq_true (by omega)
  have hs2 := sl_any b k m hkm hmb (k : Int) (m : Int) rfl rfl
  clear hc h2 h3 h4 hm hl h1

  go_enter Tryd.func20, Tryd.ntmps20
  go_wp2_with (first | (go_at_call 27; refine (rsmall _ _).mono ?_; rw [H2.out]; rintro e w' ⟨rfl, rfl⟩) | (go_at_call 28; refine (rcapital _ _).mono ?_; rw [H3.out]; rintro e w' ⟨rfl, rfl⟩) | (go_at_call 29; refine (rdigit _ _).mono ?_; rw [H4.out]; rintro e w' ⟨rfl, rfl⟩) | (go_at_call 30; refine (rname b k (Nat.le_of_lt hk) hb _).mono ?_; rw [HM.out]; rintro e w' ⟨rfl, rfl⟩) | (go_at_call 31; refine (rnumber_any b k (Nat.le_of_lt hk) hb _).mono ?_; rw [HM.out, HV.out]; rintro e w' ⟨rfl, rfl⟩))
  exact bodyPost_ret (results_tok Tryd.results20 _ _ w.heap.size ⟨2, k, b.extract k m, 0⟩ rfl (heap_alloc2_old w _ _)) rfl ⟨⟨_, rfl⟩, ((Below.refl _ _).alloc (Nat.le_refl _) _).alloc (by simp) _⟩

set_option linter.unusedVariables false in
set_option maxRecDepth 100000 in
set_option maxHeartbeats 800000 in
theorem rone_small (b : ByteArray) (k : Nat) (hk : k < b.size) (hb : b.size ≤ 281474976710656) (w : World) (c : Nat) (hc : P.byt b k = c) (h2 : P.small c = true) (h3 : P.capital c = false) (h4 : P.digit c = false) (h1 : c ≠ 10) (m : Nat) (hm : P.ext P.inner b k = m) (hkm : k ≤ m) (hmb : m ≤ b.size) (hl : ¬ 8 < m - k) :
    Calls Tryd.prog 20 #[.string b, .int .i64 (k : Int)] w fun e w' => e = .returned (.tuple #[tokV ⟨2, k, b.extract k m, 0⟩, .int .i64 0]) ∧ Below w.heap.size w w' := by
  have ix := ix_byte b k hk
  have hsl := sl_any b k (k + 1) (Nat.le_succ _) hk (k : Int) ((k : Int) + 1) rfl rfl
  rw [hc] at ix
  have H2 := Lib.hid h2
  have H3 := Lib.hid h3
  have H4 := Lib.hid h4
  have HM := Lib.hid hm
  have e1 : (((c : Nat) : Int) == 10) = false := by rw [beq_eq_false_iff_ne]; omega
  have z1 : decide ((8 : Int) < ((m - k : Nat) : Int)) = false := decide_eq_false (by omega)
  have z2 : decide (8 < m - k) = false := decide_eq_false (by omega)
  have hs2 := sl_any b k m hkm hmb (k : Int) (m : Int) rfl rfl
  clear hc h2 h3 h4 hm hl h1

  go_enter Tryd.func20, Tryd.ntmps20
  go_wp2_with (first | (go_at_call 27; refine (rsmall _ _).mono ?_; rw [H2.out]; rintro e w' ⟨rfl, rfl⟩) | (go_at_call 28; refine (rcapital _ _).mono ?_; rw [H3.out]; rintro e w' ⟨rfl, rfl⟩) | (go_at_call 29; refine (rdigit _ _).mono ?_; rw [H4.out]; rintro e w' ⟨rfl, rfl⟩) | (go_at_call 30; refine (rname b k (Nat.le_of_lt hk) hb _).mono ?_; rw [HM.out]; rintro e w' ⟨rfl, rfl⟩) | (go_at_call 31; refine (rnumber_any b k (Nat.le_of_lt hk) hb _).mono ?_; rw [HM.out, HV.out]; rintro e w' ⟨rfl, rfl⟩))
  exact bodyPost_ret (results_tok Tryd.results20 _ _ w.heap.size ⟨2, k, b.extract k m, 0⟩ rfl (heap_alloc2_old w _ _)) rfl ⟨rfl, ((Below.refl _ _).alloc (Nat.le_refl _) _).alloc (by simp) _⟩

set_option linter.unusedVariables false in
set_option maxRecDepth 100000 in
set_option maxHeartbeats 800000 in
theorem rone_capital_long (b : ByteArray) (k : Nat) (hk : k < b.size) (hb : b.size ≤ 281474976710656) (w : World) (c : Nat) (hc : P.byt b k = c) (h2 : P.small c = false) (h3 : P.capital c = true) (h4 : P.digit c = false) (h1 : c ≠ 10) (m : Nat) (hm : P.ext P.inner b k = m) (hkm : k ≤ m) (hmb : m ≤ b.size) (hl : 8 < m - k) :
    Calls Tryd.prog 20 #[.string b, .int .i64 (k : Int)] w fun e w' => (∃ r, e = .returned (.tuple #[tokV r, .int .i64 5])) ∧ Below w.heap.size w w' := by
  have ix := ix_byte b k hk
  have hsl := sl_any b k (k + 1) (Nat.le_succ _) hk (k : Int) ((k : Int) + 1) rfl rfl
  rw [hc] at ix
  have H2 := Lib.hid h2
  have H3 := Lib.hid h3
  have H4 := Lib.hid h4
  have HM := Lib.hid hm
  have e1 : (((c : Nat) : Int) == 10) = false := by rw [beq_eq_false_iff_ne]; omega
  have z1 : decide ((8 : Int) < ((m - k : Nat) : Int)) = true := decide_eq_true (by omega)
  have z2 : decide (8 < m - k) = true := decide_eq_true (by omega)
  have hs2 := sl_any b k m hkm hmb (k : Int) (m : Int) rfl rfl
  clear hc h2 h3 h4 hm hl h1

  go_enter Tryd.func20, Tryd.ntmps20
  go_wp2_with (first | (go_at_call 27; refine (rsmall _ _).mono ?_; rw [H2.out]; rintro e w' ⟨rfl, rfl⟩) | (go_at_call 28; refine (rcapital _ _).mono ?_; rw [H3.out]; rintro e w' ⟨rfl, rfl⟩) | (go_at_call 29; refine (rdigit _ _).mono ?_; rw [H4.out]; rintro e w' ⟨rfl, rfl⟩) | (go_at_call 30; refine (rname b k (Nat.le_of_lt hk) hb _).mono ?_; rw [HM.out]; rintro e w' ⟨rfl, rfl⟩) | (go_at_call 31; refine (rnumber_any b k (Nat.le_of_lt hk) hb _).mono ?_; rw [HM.out, HV.out]; rintro e w' ⟨rfl, rfl⟩))
  exact bodyPost_ret (results_tok Tryd.results20 _ _ w.heap.size ⟨3, k, b.extract k m, 0⟩ rfl (heap_alloc2_old w _ _)) rfl ⟨⟨_, rfl⟩, ((Below.refl _ _).alloc (Nat.le_refl _) _).alloc (by simp) _⟩

set_option linter.unusedVariables false in
set_option maxRecDepth 100000 in
set_option maxHeartbeats 800000 in
theorem rone_capital (b : ByteArray) (k : Nat) (hk : k < b.size) (hb : b.size ≤ 281474976710656) (w : World) (c : Nat) (hc : P.byt b k = c) (h2 : P.small c = false) (h3 : P.capital c = true) (h4 : P.digit c = false) (h1 : c ≠ 10) (m : Nat) (hm : P.ext P.inner b k = m) (hkm : k ≤ m) (hmb : m ≤ b.size) (hl : ¬ 8 < m - k) :
    Calls Tryd.prog 20 #[.string b, .int .i64 (k : Int)] w fun e w' => e = .returned (.tuple #[tokV ⟨3, k, b.extract k m, 0⟩, .int .i64 0]) ∧ Below w.heap.size w w' := by
  have ix := ix_byte b k hk
  have hsl := sl_any b k (k + 1) (Nat.le_succ _) hk (k : Int) ((k : Int) + 1) rfl rfl
  rw [hc] at ix
  have H2 := Lib.hid h2
  have H3 := Lib.hid h3
  have H4 := Lib.hid h4
  have HM := Lib.hid hm
  have e1 : (((c : Nat) : Int) == 10) = false := by rw [beq_eq_false_iff_ne]; omega
  have z1 : decide ((8 : Int) < ((m - k : Nat) : Int)) = false := decide_eq_false (by omega)
  have z2 : decide (8 < m - k) = false := decide_eq_false (by omega)
  have hs2 := sl_any b k m hkm hmb (k : Int) (m : Int) rfl rfl
  clear hc h2 h3 h4 hm hl h1

  go_enter Tryd.func20, Tryd.ntmps20
  go_wp2_with (first | (go_at_call 27; refine (rsmall _ _).mono ?_; rw [H2.out]; rintro e w' ⟨rfl, rfl⟩) | (go_at_call 28; refine (rcapital _ _).mono ?_; rw [H3.out]; rintro e w' ⟨rfl, rfl⟩) | (go_at_call 29; refine (rdigit _ _).mono ?_; rw [H4.out]; rintro e w' ⟨rfl, rfl⟩) | (go_at_call 30; refine (rname b k (Nat.le_of_lt hk) hb _).mono ?_; rw [HM.out]; rintro e w' ⟨rfl, rfl⟩) | (go_at_call 31; refine (rnumber_any b k (Nat.le_of_lt hk) hb _).mono ?_; rw [HM.out, HV.out]; rintro e w' ⟨rfl, rfl⟩))
  exact bodyPost_ret (results_tok Tryd.results20 _ _ w.heap.size ⟨3, k, b.extract k m, 0⟩ rfl (heap_alloc2_old w _ _)) rfl ⟨rfl, ((Below.refl _ _).alloc (Nat.le_refl _) _).alloc (by simp) _⟩

set_option linter.unusedVariables false in
set_option maxRecDepth 100000 in
set_option maxHeartbeats 800000 in
theorem rone_num_big (b : ByteArray) (k : Nat) (hk : k < b.size) (hb : b.size ≤ 281474976710656) (w : World) (c : Nat) (hc : P.byt b k = c) (h2 : P.small c = false) (h3 : P.capital c = false) (h4 : P.digit c = true) (h1 : c ≠ 10) (m : Nat) (hm : P.ext P.digit b k = m) (hkm : k ≤ m) (hmb : m ≤ b.size) (q : Nat) (hv : min (P.num b k m) 10000 = q) (hq : 9999 < q) :
    Calls Tryd.prog 20 #[.string b, .int .i64 (k : Int)] w fun e w' => (∃ r, e = .returned (.tuple #[tokV r, .int .i64 4])) ∧ Below w.heap.size w w' := by
  have ix := ix_byte b k hk
  have hsl := sl_any b k (k + 1) (Nat.le_succ _) hk (k : Int) ((k : Int) + 1) rfl rfl
  rw [hc] at ix
  have H2 := Lib.hid h2
  have H3 := Lib.hid h3
  have H4 := Lib.hid h4
  have HM := Lib.hid hm
  have HV := Lib.hid hv
  have e1 : (((c : Nat) : Int) == 10) = false := by rw [beq_eq_false_iff_ne]; omega
  have q1 : decide ((9999 : Int) < (q : Int)) = true := decide_eq_true (by omega)
  have q2 : decide (9999 < q) = true := decide_eq_true (by omega)
  have hs2 := sl_any b k m hkm hmb (k : Int) (m : Int) rfl rfl
  clear hc h2 h3 h4 hm hv h1 hq

  go_enter Tryd.func20, Tryd.ntmps20
  go_wp2_with (first | (go_at_call 27; refine (rsmall _ _).mono ?_; rw [H2.out]; rintro e w' ⟨rfl, rfl⟩) | (go_at_call 28; refine (rcapital _ _).mono ?_; rw [H3.out]; rintro e w' ⟨rfl, rfl⟩) | (go_at_call 29; refine (rdigit _ _).mono ?_; rw [H4.out]; rintro e w' ⟨rfl, rfl⟩) | (go_at_call 30; refine (rname b k (Nat.le_of_lt hk) hb _).mono ?_; rw [HM.out]; rintro e w' ⟨rfl, rfl⟩) | (go_at_call 31; refine (rnumber_any b k (Nat.le_of_lt hk) hb _).mono ?_; rw [HM.out, HV.out]; rintro e w' ⟨rfl, rfl⟩))
  exact bodyPost_ret (results_tok Tryd.results20 _ _ w.heap.size ⟨4, k, b.extract k m, q⟩ rfl (heap_alloc2_old w _ _)) rfl ⟨⟨_, rfl⟩, ((Below.refl _ _).alloc (Nat.le_refl _) _).alloc (by simp) _⟩

set_option linter.unusedVariables false in
set_option maxRecDepth 100000 in
set_option maxHeartbeats 800000 in
theorem rone_num_plain (b : ByteArray) (k : Nat) (hk : k < b.size) (hb : b.size ≤ 281474976710656) (w : World) (c : Nat) (hc : P.byt b k = c) (h2 : P.small c = false) (h3 : P.capital c = false) (h4 : P.digit c = true) (h1 : c ≠ 10) (m : Nat) (hm : P.ext P.digit b k = m) (hkm : k ≤ m) (hmb : m ≤ b.size) (q : Nat) (hv : min (P.num b k m) 10000 = q) (hq : ¬ 9999 < q) (hz : c ≠ 48) :
    Calls Tryd.prog 20 #[.string b, .int .i64 (k : Int)] w fun e w' => e = .returned (.tuple #[tokV ⟨4, k, b.extract k m, q⟩, .int .i64 0]) ∧ Below w.heap.size w w' := by
  have ix := ix_byte b k hk
  have hsl := sl_any b k (k + 1) (Nat.le_succ _) hk (k : Int) ((k : Int) + 1) rfl rfl
  rw [hc] at ix
  have H2 := Lib.hid h2
  have H3 := Lib.hid h3
  have H4 := Lib.hid h4
  have HM := Lib.hid hm
  have HV := Lib.hid hv
  have e1 : (((c : Nat) : Int) == 10) = false := by rw [beq_eq_false_iff_ne]; omega
  have q1 : decide ((9999 : Int) < (q : Int)) = false := decide_eq_false (by omega)
  have q2 : decide (9999 < q) = false := decide_eq_false (by omega)
  have q3 : (((c : Nat) : Int) == 48) = false := by rw [beq_eq_false_iff_ne]; omega
  have hs2 := sl_any b k m hkm hmb (k : Int) (m : Int) rfl rfl
  clear hc h2 h3 h4 hm hv h1 hq hz

  go_enter Tryd.func20, Tryd.ntmps20
  go_wp2_with (first | (go_at_call 27; refine (rsmall _ _).mono ?_; rw [H2.out]; rintro e w' ⟨rfl, rfl⟩) | (go_at_call 28; refine (rcapital _ _).mono ?_; rw [H3.out]; rintro e w' ⟨rfl, rfl⟩) | (go_at_call 29; refine (rdigit _ _).mono ?_; rw [H4.out]; rintro e w' ⟨rfl, rfl⟩) | (go_at_call 30; refine (rname b k (Nat.le_of_lt hk) hb _).mono ?_; rw [HM.out]; rintro e w' ⟨rfl, rfl⟩) | (go_at_call 31; refine (rnumber_any b k (Nat.le_of_lt hk) hb _).mono ?_; rw [HM.out, HV.out]; rintro e w' ⟨rfl, rfl⟩))
  exact bodyPost_ret (results_tok Tryd.results20 _ _ w.heap.size ⟨4, k, b.extract k m, q⟩ rfl (heap_alloc2_old w _ _)) rfl ⟨rfl, ((Below.refl _ _).alloc (Nat.le_refl _) _).alloc (by simp) _⟩

set_option linter.unusedVariables false in
set_option maxRecDepth 100000 in
set_option maxHeartbeats 800000 in
theorem rone_num_zero (b : ByteArray) (k : Nat) (hk : k < b.size) (hb : b.size ≤ 281474976710656) (w : World) (c : Nat) (hc : P.byt b k = c) (h2 : P.small c = false) (h3 : P.capital c = false) (h4 : P.digit c = true) (h1 : c ≠ 10) (m : Nat) (hm : P.ext P.digit b k = m) (hkm : k ≤ m) (hmb : m ≤ b.size) (q : Nat) (hv : min (P.num b k m) 10000 = q) (hq : ¬ 9999 < q) (hz : c = 48) (hl : k + 1 < m) :
    Calls Tryd.prog 20 #[.string b, .int .i64 (k : Int)] w fun e w' => (∃ r, e = .returned (.tuple #[tokV r, .int .i64 4])) ∧ Below w.heap.size w w' := by
  have ix := ix_byte b k hk
  have hsl := sl_any b k (k + 1) (Nat.le_succ _) hk (k : Int) ((k : Int) + 1) rfl rfl
  rw [hc] at ix
  have H2 := Lib.hid h2
  have H3 := Lib.hid h3
  have H4 := Lib.hid h4
  have HM := Lib.hid hm
  have HV := Lib.hid hv
  have e1 : (((c : Nat) : Int) == 10) = false := by rw [beq_eq_false_iff_ne]; omega
  have q1 : decide ((9999 : Int) < (q : Int)) = false := decide_eq_false (by omega)
  have q2 : decide (9999 < q) = false := decide_eq_false (by omega)
  have q3 : (((c : Nat) : Int) == 48) = true := by rw [beq_iff_eq]; omega
  have q4 : decide (((k : Nat) : Int) + 1 < (m : Int)) = true := decide_eq_true (by omega)
  have q5 : decide (k + 1 < m) = true := decide_eq_true (by omega)
  have hs2 := sl_any b k m hkm hmb (k : Int) (m : Int) rfl rfl
  clear hc h2 h3 h4 hm hv h1 hq hz hl

  go_enter Tryd.func20, Tryd.ntmps20
  go_wp2_with (first | (go_at_call 27; refine (rsmall _ _).mono ?_; rw [H2.out]; rintro e w' ⟨rfl, rfl⟩) | (go_at_call 28; refine (rcapital _ _).mono ?_; rw [H3.out]; rintro e w' ⟨rfl, rfl⟩) | (go_at_call 29; refine (rdigit _ _).mono ?_; rw [H4.out]; rintro e w' ⟨rfl, rfl⟩) | (go_at_call 30; refine (rname b k (Nat.le_of_lt hk) hb _).mono ?_; rw [HM.out]; rintro e w' ⟨rfl, rfl⟩) | (go_at_call 31; refine (rnumber_any b k (Nat.le_of_lt hk) hb _).mono ?_; rw [HM.out, HV.out]; rintro e w' ⟨rfl, rfl⟩))
  exact bodyPost_ret (results_tok Tryd.results20 _ _ w.heap.size ⟨4, k, b.extract k m, q⟩ rfl (heap_alloc2_old w _ _)) rfl ⟨⟨_, rfl⟩, ((Below.refl _ _).alloc (Nat.le_refl _) _).alloc (by simp) _⟩

set_option linter.unusedVariables false in
set_option maxRecDepth 100000 in
set_option maxHeartbeats 800000 in
theorem rone_num_nought (b : ByteArray) (k : Nat) (hk : k < b.size) (hb : b.size ≤ 281474976710656) (w : World) (c : Nat) (hc : P.byt b k = c) (h2 : P.small c = false) (h3 : P.capital c = false) (h4 : P.digit c = true) (h1 : c ≠ 10) (m : Nat) (hm : P.ext P.digit b k = m) (hkm : k ≤ m) (hmb : m ≤ b.size) (q : Nat) (hv : min (P.num b k m) 10000 = q) (hq : ¬ 9999 < q) (hz : c = 48) (hl : ¬ k + 1 < m) :
    Calls Tryd.prog 20 #[.string b, .int .i64 (k : Int)] w fun e w' => e = .returned (.tuple #[tokV ⟨4, k, b.extract k m, q⟩, .int .i64 0]) ∧ Below w.heap.size w w' := by
  have ix := ix_byte b k hk
  have hsl := sl_any b k (k + 1) (Nat.le_succ _) hk (k : Int) ((k : Int) + 1) rfl rfl
  rw [hc] at ix
  have H2 := Lib.hid h2
  have H3 := Lib.hid h3
  have H4 := Lib.hid h4
  have HM := Lib.hid hm
  have HV := Lib.hid hv
  have e1 : (((c : Nat) : Int) == 10) = false := by rw [beq_eq_false_iff_ne]; omega
  have q1 : decide ((9999 : Int) < (q : Int)) = false := decide_eq_false (by omega)
  have q2 : decide (9999 < q) = false := decide_eq_false (by omega)
  have q3 : (((c : Nat) : Int) == 48) = true := by rw [beq_iff_eq]; omega
  have q4 : decide (((k : Nat) : Int) + 1 < (m : Int)) = false := decide_eq_false (by omega)
  have q5 : decide (k + 1 < m) = false := decide_eq_false (by omega)
  have hs2 := sl_any b k m hkm hmb (k : Int) (m : Int) rfl rfl
  clear hc h2 h3 h4 hm hv h1 hq hz hl

  go_enter Tryd.func20, Tryd.ntmps20
  go_wp2_with (first | (go_at_call 27; refine (rsmall _ _).mono ?_; rw [H2.out]; rintro e w' ⟨rfl, rfl⟩) | (go_at_call 28; refine (rcapital _ _).mono ?_; rw [H3.out]; rintro e w' ⟨rfl, rfl⟩) | (go_at_call 29; refine (rdigit _ _).mono ?_; rw [H4.out]; rintro e w' ⟨rfl, rfl⟩) | (go_at_call 30; refine (rname b k (Nat.le_of_lt hk) hb _).mono ?_; rw [HM.out]; rintro e w' ⟨rfl, rfl⟩) | (go_at_call 31; refine (rnumber_any b k (Nat.le_of_lt hk) hb _).mono ?_; rw [HM.out, HV.out]; rintro e w' ⟨rfl, rfl⟩))
  exact bodyPost_ret (results_tok Tryd.results20 _ _ w.heap.size ⟨4, k, b.extract k m, q⟩ rfl (heap_alloc2_old w _ _)) rfl ⟨rfl, ((Below.refl _ _).alloc (Nat.le_refl _) _).alloc (by simp) _⟩

set_option linter.unusedVariables false in
set_option maxRecDepth 100000 in
set_option maxHeartbeats 800000 in
theorem rone_sign (b : ByteArray) (k : Nat) (hk : k < b.size) (hb : b.size ≤ 281474976710656) (w : World) (c : Nat) (hc : P.byt b k = c) (h2 : P.small c = false) (h3 : P.capital c = false) (h4 : P.digit c = false) (h1 : c ≠ 10) (g1 : 33 ≤ c) (g2 : c ≤ 126) (g3 : c ≠ 95) :
    Calls Tryd.prog 20 #[.string b, .int .i64 (k : Int)] w fun e w' => e = .returned (.tuple #[tokV ⟨5, k, b.extract k (k + 1), 0⟩, .int .i64 0]) ∧ Below w.heap.size w w' := by
  have ix := ix_byte b k hk
  have hsl := sl_any b k (k + 1) (Nat.le_succ _) hk (k : Int) ((k : Int) + 1) rfl rfl
  rw [hc] at ix
  have H2 := Lib.hid h2
  have H3 := Lib.hid h3
  have H4 := Lib.hid h4
  have e1 : (((c : Nat) : Int) == 10) = false := by rw [beq_eq_false_iff_ne]; omega
  have i1 : decide ((33 : Int) ≤ (c : Int)) = true := decide_eq_true (by omega)
  have i2 : decide (33 ≤ c) = true := decide_eq_true (by omega)
  have j1 : decide ((c : Int) ≤ 126) = true := decide_eq_true (by omega)
  have j2 : decide (c ≤ 126) = true := decide_eq_true (by omega)
  have k1 : (((c : Nat) : Int) != 95) = true := by rw [bne_iff_ne]; omega
  clear hc h2 h3 h4 h1 g1 g2 g3

  go_enter Tryd.func20, Tryd.ntmps20
  go_wp2_with (first | (go_at_call 27; refine (rsmall _ _).mono ?_; rw [H2.out]; rintro e w' ⟨rfl, rfl⟩) | (go_at_call 28; refine (rcapital _ _).mono ?_; rw [H3.out]; rintro e w' ⟨rfl, rfl⟩) | (go_at_call 29; refine (rdigit _ _).mono ?_; rw [H4.out]; rintro e w' ⟨rfl, rfl⟩) | (go_at_call 30; refine (rname b k (Nat.le_of_lt hk) hb _).mono ?_; rw [HM.out]; rintro e w' ⟨rfl, rfl⟩) | (go_at_call 31; refine (rnumber_any b k (Nat.le_of_lt hk) hb _).mono ?_; rw [HM.out, HV.out]; rintro e w' ⟨rfl, rfl⟩))
  exact bodyPost_ret (results_tok Tryd.results20 _ _ w.heap.size ⟨5, k, b.extract k (k + 1), 0⟩ rfl (heap_alloc2_old w _ _)) rfl ⟨rfl, ((Below.refl _ _).alloc (Nat.le_refl _) _).alloc (by simp) _⟩

set_option linter.unusedVariables false in
set_option maxRecDepth 100000 in
set_option maxHeartbeats 800000 in
theorem rone_lone (b : ByteArray) (k : Nat) (hk : k < b.size) (hb : b.size ≤ 281474976710656) (w : World) (c : Nat) (hc : P.byt b k = c) (h2 : P.small c = false) (h3 : P.capital c = false) (h4 : P.digit c = false) (h1 : c ≠ 10) (g1 : 33 ≤ c) (g2 : c ≤ 126) (g3 : c = 95) :
    Calls Tryd.prog 20 #[.string b, .int .i64 (k : Int)] w fun e w' => (∃ r, e = .returned (.tuple #[tokV r, .int .i64 3])) ∧ Below w.heap.size w w' := by
  have ix := ix_byte b k hk
  have hsl := sl_any b k (k + 1) (Nat.le_succ _) hk (k : Int) ((k : Int) + 1) rfl rfl
  rw [hc] at ix
  have H2 := Lib.hid h2
  have H3 := Lib.hid h3
  have H4 := Lib.hid h4
  have e1 : (((c : Nat) : Int) == 10) = false := by rw [beq_eq_false_iff_ne]; omega
  have i1 : decide ((33 : Int) ≤ (c : Int)) = true := decide_eq_true (by omega)
  have i2 : decide (33 ≤ c) = true := decide_eq_true (by omega)
  have j1 : decide ((c : Int) ≤ 126) = true := decide_eq_true (by omega)
  have j2 : decide (c ≤ 126) = true := decide_eq_true (by omega)
  have k1 : (((c : Nat) : Int) != 95) = false := by rw [bne_eq_false_iff_eq]; omega
  clear hc h2 h3 h4 h1 g1 g2 g3

  go_enter Tryd.func20, Tryd.ntmps20
  go_wp2_with (first | (go_at_call 27; refine (rsmall _ _).mono ?_; rw [H2.out]; rintro e w' ⟨rfl, rfl⟩) | (go_at_call 28; refine (rcapital _ _).mono ?_; rw [H3.out]; rintro e w' ⟨rfl, rfl⟩) | (go_at_call 29; refine (rdigit _ _).mono ?_; rw [H4.out]; rintro e w' ⟨rfl, rfl⟩) | (go_at_call 30; refine (rname b k (Nat.le_of_lt hk) hb _).mono ?_; rw [HM.out]; rintro e w' ⟨rfl, rfl⟩) | (go_at_call 31; refine (rnumber_any b k (Nat.le_of_lt hk) hb _).mono ?_; rw [HM.out, HV.out]; rintro e w' ⟨rfl, rfl⟩))
  exact bodyPost_ret (results_tok Tryd.results20 _ _ w.heap.size ⟨0, k, b.extract k (k + 1), 0⟩ rfl (heap_alloc2_old w _ _)) rfl ⟨⟨_, rfl⟩, ((Below.refl _ _).alloc (Nat.le_refl _) _).alloc (by simp) _⟩

set_option linter.unusedVariables false in
set_option maxRecDepth 100000 in
set_option maxHeartbeats 800000 in
theorem rone_high (b : ByteArray) (k : Nat) (hk : k < b.size) (hb : b.size ≤ 281474976710656) (w : World) (c : Nat) (hc : P.byt b k = c) (h2 : P.small c = false) (h3 : P.capital c = false) (h4 : P.digit c = false) (h1 : c ≠ 10) (g1 : 33 ≤ c) (g2 : ¬ c ≤ 126) :
    Calls Tryd.prog 20 #[.string b, .int .i64 (k : Int)] w fun e w' => (∃ r, e = .returned (.tuple #[tokV r, .int .i64 3])) ∧ Below w.heap.size w w' := by
  have ix := ix_byte b k hk
  have hsl := sl_any b k (k + 1) (Nat.le_succ _) hk (k : Int) ((k : Int) + 1) rfl rfl
  rw [hc] at ix
  have H2 := Lib.hid h2
  have H3 := Lib.hid h3
  have H4 := Lib.hid h4
  have e1 : (((c : Nat) : Int) == 10) = false := by rw [beq_eq_false_iff_ne]; omega
  have i1 : decide ((33 : Int) ≤ (c : Int)) = true := decide_eq_true (by omega)
  have i2 : decide (33 ≤ c) = true := decide_eq_true (by omega)
  have j1 : decide ((c : Int) ≤ 126) = false := decide_eq_false (by omega)
  have j2 : decide (c ≤ 126) = false := decide_eq_false (by omega)
  clear hc h2 h3 h4 h1 g1 g2

  go_enter Tryd.func20, Tryd.ntmps20
  go_wp2_with (first | (go_at_call 27; refine (rsmall _ _).mono ?_; rw [H2.out]; rintro e w' ⟨rfl, rfl⟩) | (go_at_call 28; refine (rcapital _ _).mono ?_; rw [H3.out]; rintro e w' ⟨rfl, rfl⟩) | (go_at_call 29; refine (rdigit _ _).mono ?_; rw [H4.out]; rintro e w' ⟨rfl, rfl⟩) | (go_at_call 30; refine (rname b k (Nat.le_of_lt hk) hb _).mono ?_; rw [HM.out]; rintro e w' ⟨rfl, rfl⟩) | (go_at_call 31; refine (rnumber_any b k (Nat.le_of_lt hk) hb _).mono ?_; rw [HM.out, HV.out]; rintro e w' ⟨rfl, rfl⟩))
  exact bodyPost_ret (results_tok Tryd.results20 _ _ w.heap.size ⟨0, k, b.extract k (k + 1), 0⟩ rfl (heap_alloc2_old w _ _)) rfl ⟨⟨_, rfl⟩, ((Below.refl _ _).alloc (Nat.le_refl _) _).alloc (by simp) _⟩

set_option linter.unusedVariables false in
set_option maxRecDepth 100000 in
set_option maxHeartbeats 800000 in
theorem rone_low (b : ByteArray) (k : Nat) (hk : k < b.size) (hb : b.size ≤ 281474976710656) (w : World) (c : Nat) (hc : P.byt b k = c) (h2 : P.small c = false) (h3 : P.capital c = false) (h4 : P.digit c = false) (h1 : c ≠ 10) (g1 : ¬ 33 ≤ c) :
    Calls Tryd.prog 20 #[.string b, .int .i64 (k : Int)] w fun e w' => (∃ r, e = .returned (.tuple #[tokV r, .int .i64 3])) ∧ Below w.heap.size w w' := by
  have ix := ix_byte b k hk
  have hsl := sl_any b k (k + 1) (Nat.le_succ _) hk (k : Int) ((k : Int) + 1) rfl rfl
  rw [hc] at ix
  have H2 := Lib.hid h2
  have H3 := Lib.hid h3
  have H4 := Lib.hid h4
  have e1 : (((c : Nat) : Int) == 10) = false := by rw [beq_eq_false_iff_ne]; omega
  have i1 : decide ((33 : Int) ≤ (c : Int)) = false := decide_eq_false (by omega)
  have i2 : decide (33 ≤ c) = false := decide_eq_false (by omega)
  clear hc h2 h3 h4 h1 g1

  go_enter Tryd.func20, Tryd.ntmps20
  go_wp2_with (first | (go_at_call 27; refine (rsmall _ _).mono ?_; rw [H2.out]; rintro e w' ⟨rfl, rfl⟩) | (go_at_call 28; refine (rcapital _ _).mono ?_; rw [H3.out]; rintro e w' ⟨rfl, rfl⟩) | (go_at_call 29; refine (rdigit _ _).mono ?_; rw [H4.out]; rintro e w' ⟨rfl, rfl⟩) | (go_at_call 30; refine (rname b k (Nat.le_of_lt hk) hb _).mono ?_; rw [HM.out]; rintro e w' ⟨rfl, rfl⟩) | (go_at_call 31; refine (rnumber_any b k (Nat.le_of_lt hk) hb _).mono ?_; rw [HM.out, HV.out]; rintro e w' ⟨rfl, rfl⟩))
  exact bodyPost_ret (results_tok Tryd.results20 _ _ w.heap.size ⟨0, k, b.extract k (k + 1), 0⟩ rfl (heap_alloc2_old w _ _)) rfl ⟨⟨_, rfl⟩, ((Below.refl _ _).alloc (Nat.le_refl _) _).alloc (by simp) _⟩

/-- What the document's answer for one token hands back. -/
def ROne (r : Except Nat P.Tok) (e : Ending) : Prop :=
  match r with
  | .ok t => e = .returned (.tuple #[tokV t, .int .i64 0])
  | .error er => ∃ r, e = .returned (.tuple #[tokV r, .int .i64 ((er : Nat) : Int)])
theorem rone_any (b : ByteArray) (k : Nat) (hk : k < b.size) (hb : b.size ≤ 281474976710656) (w : World) :
    Calls Tryd.prog 20 #[.string b, .int .i64 (k : Int)] w fun e w' => ROne (P.one b k) e ∧ Below w.heap.size w w' := by
  obtain ⟨c, hc⟩ : ∃ c, P.byt b k = c := ⟨_, rfl⟩
  have s1 : P.small c = true ↔ 97 ≤ c ∧ c ≤ 122 := by unfold P.small; simp
  have s2 : P.capital c = true ↔ 65 ≤ c ∧ c ≤ 90 := by unfold P.capital; simp
  have s3 : P.digit c = true ↔ 48 ≤ c ∧ c ≤ 57 := by unfold P.digit; simp
  have s4 : P.sign c = true ↔ 33 ≤ c ∧ c ≤ 126 ∧ c ≠ 95 := by unfold P.sign; simp
  have m1 := P.ext_ge P.inner b k
  have m2 := P.ext_le (p := P.inner) (b := b) (k := k) (by omega)
  have m3 := P.ext_ge P.digit b k
  have m4 := P.ext_le (p := P.digit) (b := b) (k := k) (by omega)
  unfold P.one
  rw [hc]
  by_cases h1 : c = 10
  · subst h1
    rw [if_pos rfl]
    exact rone_nl b k hk hb w (by decide) (by decide) (by decide) hc
  rw [if_neg h1]
  cases h2 : P.small c with
  | true =>
    have h3 : P.capital c = false := by rw [← Bool.not_eq_true, s2]; have := s1.1 h2; omega
    have h4 : P.digit c = false := by rw [← Bool.not_eq_true, s3]; have := s1.1 h2; omega
    rw [if_pos rfl]
    by_cases hl : 8 < P.ext P.inner b k - k
    · rw [if_pos hl]
      exact rone_small_long b k hk hb w c hc h2 h3 h4 h1 _ rfl m1 m2 hl
    · rw [if_neg hl]
      exact rone_small b k hk hb w c hc h2 h3 h4 h1 _ rfl m1 m2 hl
  | false =>
  rw [if_neg (by decide)]
  cases h3 : P.capital c with
  | true =>
    have h4 : P.digit c = false := by rw [← Bool.not_eq_true, s3]; have := s2.1 h3; omega
    rw [if_pos rfl]
    by_cases hl : 8 < P.ext P.inner b k - k
    · rw [if_pos hl]
      exact rone_capital_long b k hk hb w c hc h2 h3 h4 h1 _ rfl m1 m2 hl
    · rw [if_neg hl]
      exact rone_capital b k hk hb w c hc h2 h3 h4 h1 _ rfl m1 m2 hl
  | false =>
  rw [if_neg (by decide)]
  cases h4 : P.digit c with
  | true =>
    rw [if_pos rfl]
    by_cases hq : 9999 < P.num b k (P.ext P.digit b k)
    · rw [if_pos (.inr hq)]
      exact rone_num_big b k hk hb w c hc h2 h3 h4 h1 _ rfl m3 m4 _ rfl (by omega)
    · have hmin : min (P.num b k (P.ext P.digit b k)) 10000 = P.num b k (P.ext P.digit b k) := by omega
      by_cases hz : c = 48
      · by_cases hl : k + 1 < P.ext P.digit b k
        · rw [if_pos (.inl ⟨by omega, hz⟩)]
          exact rone_num_zero b k hk hb w c hc h2 h3 h4 h1 _ rfl m3 m4 _ hmin hq hz hl
        · rw [if_neg (by omega)]
          exact rone_num_nought b k hk hb w c hc h2 h3 h4 h1 _ rfl m3 m4 _ hmin hq hz hl
      · rw [if_neg (by omega)]
        exact rone_num_plain b k hk hb w c hc h2 h3 h4 h1 _ rfl m3 m4 _ hmin hq hz
  | false =>
  rw [if_neg (by decide)]
  by_cases g1 : 33 ≤ c
  · by_cases g2 : c ≤ 126
    · by_cases g3 : c = 95
      · rw [if_neg (by rw [s4]; omega)]
        exact rone_lone b k hk hb w c hc h2 h3 h4 h1 g1 g2 g3
      · rw [if_pos (by rw [s4]; omega)]
        exact rone_sign b k hk hb w c hc h2 h3 h4 h1 g1 g2 g3
    · rw [if_neg (by rw [s4]; omega)]
      exact rone_high b k hk hb w c hc h2 h3 h4 h1 g1 g2
  · rw [if_neg (by rw [s4]; omega)]
    exact rone_low b k hk hb w c hc h2 h3 h4 h1 g1
end W
end Go.Proofs.YtbimjejidlohnaaDoor
