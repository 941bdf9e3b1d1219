/- How far the bytes of one kind go on, in the program and in the document's answer. -/
import Derived.Test.YtbimjejidlohnaaDoorBytes
namespace Go.Proofs.YtbimjejidlohnaaDoor
open Go.RowKit
namespace W
theorem ix_byte (b : ByteArray) (k : Nat) (h : k < b.size) (w : World) : (Instr.index 9 (.string b) (.int .i64 (k : Int))).run Tryd.prog w = .ok (.int .u8 ((P.byt b k : Nat) : Int)) w := by
  rw [run_index_string w 9 b .i64 (k : Int) Tryd.underlying9]
  rw [dif_pos ⟨Int.natCast_nonneg _, by omega⟩]
  have e : (b[((k : Int)).toNat]'(by simpa using h)).toNat = P.byt b k := by
    obtain ⟨⟨l⟩⟩ := b
    have hl : k < l.length := h
    unfold P.byt
    simp only [List.getD, List.getElem?_eq_getElem hl, Option.getD_some]
    rfl
  rw [e]

set_option maxRecDepth 100000 in
set_option maxHeartbeats 2000000 in
theorem isInner (c : Nat) (w : World) : Calls Tryd.prog 36 #[.int .u8 (c : Int)] w fun e w' => e = .returned (.bool (P.inner c)) ∧ w' = w := by
  unfold P.inner
  go_enter Tryd.func36, Tryd.ntmps36
  have e5 : ((c : Int) == 95) = (c == 95) := by
    apply Bool.eq_iff_iff.2
    rw [beq_iff_eq, beq_iff_eq]
    omega
  cases h1 : P.small c with
  | true =>
    go_wp2_with (first | (go_at_call 22; refine (isSmall _ _).mono ?_; rintro e w' ⟨rfl, rfl⟩) | (go_at_call 24; refine (isCapital _ _).mono ?_; rintro e w' ⟨rfl, rfl⟩) | (go_at_call 25; refine (isDigit _ _).mono ?_; rintro e w' ⟨rfl, rfl⟩))
    go_ret
    exact ⟨rfl, rfl⟩
  | false =>
    cases h2 : P.capital c with
    | true =>
      go_wp2_with (first | (go_at_call 22; refine (isSmall _ _).mono ?_; rintro e w' ⟨rfl, rfl⟩) | (go_at_call 24; refine (isCapital _ _).mono ?_; rintro e w' ⟨rfl, rfl⟩) | (go_at_call 25; refine (isDigit _ _).mono ?_; rintro e w' ⟨rfl, rfl⟩))
      go_ret
      exact ⟨rfl, rfl⟩
    | false =>
      cases h3 : P.digit c with
      | true =>
        go_wp2_with (first | (go_at_call 22; refine (isSmall _ _).mono ?_; rintro e w' ⟨rfl, rfl⟩) | (go_at_call 24; refine (isCapital _ _).mono ?_; rintro e w' ⟨rfl, rfl⟩) | (go_at_call 25; refine (isDigit _ _).mono ?_; rintro e w' ⟨rfl, rfl⟩))
        go_ret
        exact ⟨rfl, rfl⟩
      | false =>
        go_wp2_with (first | (go_at_call 22; refine (isSmall _ _).mono ?_; rintro e w' ⟨rfl, rfl⟩) | (go_at_call 24; refine (isCapital _ _).mono ?_; rintro e w' ⟨rfl, rfl⟩) | (go_at_call 25; refine (isDigit _ _).mono ?_; rintro e w' ⟨rfl, rfl⟩))
        go_ret
        exact ⟨by rw [← e5]; rfl, rfl⟩

set_option maxRecDepth 100000 in
set_option maxHeartbeats 2000000 in
theorem rinner (c : Nat) (w : World) : Calls Tryd.prog 38 #[.int .u8 (c : Int)] w fun e w' => e = .returned (.bool (P.inner c)) ∧ w' = w := by
  unfold P.inner
  go_enter Tryd.func38, Tryd.ntmps38
  have e5 : ((c : Int) == 95) = (c == 95) := by
    apply Bool.eq_iff_iff.2
    rw [beq_iff_eq, beq_iff_eq]
    omega
  cases h1 : P.small c <;> cases h2 : P.capital c <;> cases h3 : P.digit c
  all_goals
    go_wp2_with (first | (go_at_call 27; refine (rsmall _ _).mono ?_; rintro e w' ⟨rfl, rfl⟩) | (go_at_call 28; refine (rcapital _ _).mono ?_; rintro e w' ⟨rfl, rfl⟩) | (go_at_call 29; refine (rdigit _ _).mono ?_; rintro e w' ⟨rfl, rfl⟩))
    go_ret
    exact ⟨by first | rfl | (rw [← e5]; rfl), rfl⟩

set_option maxRecDepth 100000 in
set_option maxHeartbeats 2000000 in
theorem stretch_remark (b : ByteArray) (k : Nat) (hk : k ≤ b.size) (hb : b.size ≤ 281474976710656) (w : World) :
    Calls Tryd.prog 17 #[.string b, .int .i64 (k : Int), .func (.func 18) #[] #[]] w fun e w' => e = .returned (.int .i64 ((P.ext P.remark b k : Nat) : Int)) ∧ w' = w := by
  go_enter Tryd.func17, Tryd.ntmps17
  go_wp2_with fail
  go_loopw [1] (fun i wr => ∃ m : Nat, m ≤ b.size ∧ i = .int .i64 m ∧ P.ext P.remark b m = P.ext P.remark b k ∧ wr = w) (fun i _ => b.size - (intOf i).toNat)
  case atStart => exact ⟨k, hk, rfl, rfl, rfl⟩
  case round =>
    obtain ⟨m, hm, rfl, he, rfl⟩ := hrel
    have HE := Lib.hid he
    clear he
    have hm0 : (0 : Int) ≤ (m : Int) := Int.natCast_nonneg _
    by_cases hlt : m < b.size
    · have hd : decide ((m : Int) < (b.size : Int)) = true := decide_eq_true (by omega)
      have ix := ix_byte b m hlt
      cases hp : P.remark (P.byt b m) with
      | true =>
        have HN := Lib.hid (P.ext_in hlt hp)
        go_wp2_with (go_at_call 18; refine (isRemark _ _).mono ?_; rintro e w' ⟨rfl, rfl⟩)
        go_roundw
        case rel => exact ⟨m + 1, by omega, by go_num, by rw [← HE.out, HN.out], by first | trivial | rfl⟩
        case measure => simp [intOf]; omega
      | false =>
        have HN := Lib.hid (P.ext_out (b := b) hp)
        go_wp2_with (go_at_call 18; refine (isRemark _ _).mono ?_; rintro e w' ⟨rfl, rfl⟩)
        go_ret
        exact ⟨by rw [← HE.out, HN.out]; rfl, rfl⟩
    · obtain rfl : m = b.size := by omega
      have HN := Lib.hid (P.ext_end (p := P.remark) (Nat.le_refl b.size))
      go_wp2_with fail
      go_ret
      exact ⟨by rw [← HE.out, HN.out]; rfl, rfl⟩

set_option maxRecDepth 100000 in
set_option maxHeartbeats 2000000 in
theorem stretch_inner (b : ByteArray) (k : Nat) (hk : k ≤ b.size) (hb : b.size ≤ 281474976710656) (w : World) :
    Calls Tryd.prog 17 #[.string b, .int .i64 (k : Int), .func (.func 36) #[] #[]] w fun e w' => e = .returned (.int .i64 ((P.ext P.inner b k : Nat) : Int)) ∧ w' = w := by
  go_enter Tryd.func17, Tryd.ntmps17
  go_wp2_with fail
  go_loopw [1] (fun i wr => ∃ m : Nat, m ≤ b.size ∧ i = .int .i64 m ∧ P.ext P.inner b m = P.ext P.inner b k ∧ wr = w) (fun i _ => b.size - (intOf i).toNat)
  case atStart => exact ⟨k, hk, rfl, rfl, rfl⟩
  case round =>
    obtain ⟨m, hm, rfl, he, rfl⟩ := hrel
    have HE := Lib.hid he
    clear he
    have hm0 : (0 : Int) ≤ (m : Int) := Int.natCast_nonneg _
    by_cases hlt : m < b.size
    · have hd : decide ((m : Int) < (b.size : Int)) = true := decide_eq_true (by omega)
      have ix := ix_byte b m hlt
      cases hp : P.inner (P.byt b m) with
      | true =>
        have HN := Lib.hid (P.ext_in hlt hp)
        go_wp2_with (go_at_call 36; refine (isInner _ _).mono ?_; rintro e w' ⟨rfl, rfl⟩)
        go_roundw
        case rel => exact ⟨m + 1, by omega, by go_num, by rw [← HE.out, HN.out], by first | trivial | rfl⟩
        case measure => simp [intOf]; omega
      | false =>
        have HN := Lib.hid (P.ext_out (b := b) hp)
        go_wp2_with (go_at_call 36; refine (isInner _ _).mono ?_; rintro e w' ⟨rfl, rfl⟩)
        go_ret
        exact ⟨by rw [← HE.out, HN.out]; rfl, rfl⟩
    · obtain rfl : m = b.size := by omega
      have HN := Lib.hid (P.ext_end (p := P.inner) (Nat.le_refl b.size))
      go_wp2_with fail
      go_ret
      exact ⟨by rw [← HE.out, HN.out]; rfl, rfl⟩

set_option maxRecDepth 100000 in
set_option maxHeartbeats 2000000 in
theorem stretch_digit (b : ByteArray) (k : Nat) (hk : k ≤ b.size) (hb : b.size ≤ 281474976710656) (w : World) :
    Calls Tryd.prog 17 #[.string b, .int .i64 (k : Int), .func (.func 25) #[] #[]] w fun e w' => e = .returned (.int .i64 ((P.ext P.digit b k : Nat) : Int)) ∧ w' = w := by
  go_enter Tryd.func17, Tryd.ntmps17
  go_wp2_with fail
  go_loopw [1] (fun i wr => ∃ m : Nat, m ≤ b.size ∧ i = .int .i64 m ∧ P.ext P.digit b m = P.ext P.digit b k ∧ wr = w) (fun i _ => b.size - (intOf i).toNat)
  case atStart => exact ⟨k, hk, rfl, rfl, rfl⟩
  case round =>
    obtain ⟨m, hm, rfl, he, rfl⟩ := hrel
    have HE := Lib.hid he
    clear he
    have hm0 : (0 : Int) ≤ (m : Int) := Int.natCast_nonneg _
    by_cases hlt : m < b.size
    · have hd : decide ((m : Int) < (b.size : Int)) = true := decide_eq_true (by omega)
      have ix := ix_byte b m hlt
      cases hp : P.digit (P.byt b m) with
      | true =>
        have HN := Lib.hid (P.ext_in hlt hp)
        go_wp2_with (go_at_call 25; refine (isDigit _ _).mono ?_; rintro e w' ⟨rfl, rfl⟩)
        go_roundw
        case rel => exact ⟨m + 1, by omega, by go_num, by rw [← HE.out, HN.out], by first | trivial | rfl⟩
        case measure => simp [intOf]; omega
      | false =>
        have HN := Lib.hid (P.ext_out (b := b) hp)
        go_wp2_with (go_at_call 25; refine (isDigit _ _).mono ?_; rintro e w' ⟨rfl, rfl⟩)
        go_ret
        exact ⟨by rw [← HE.out, HN.out]; rfl, rfl⟩
    · obtain rfl : m = b.size := by omega
      have HN := Lib.hid (P.ext_end (p := P.digit) (Nat.le_refl b.size))
      go_wp2_with fail
      go_ret
      exact ⟨by rw [← HE.out, HN.out]; rfl, rfl⟩

set_option maxRecDepth 100000 in
set_option maxHeartbeats 2000000 in
theorem rname (b : ByteArray) (k : Nat) (hk : k ≤ b.size) (hb : b.size ≤ 281474976710656) (w : World) :
    Calls Tryd.prog 30 #[.string b, .int .i64 (k : Int)] w fun e w' => e = .returned (.int .i64 ((P.ext P.inner b k : Nat) : Int)) ∧ w' = w := by
  go_enter Tryd.func30, Tryd.ntmps30
  go_wp2_with fail

  go_loopw [5] (fun i wr => ∃ m : Nat, m ≤ b.size ∧ i = .int .i64 m ∧ P.ext P.inner b m = P.ext P.inner b k ∧ wr = w) (fun i _ => b.size - (intOf i).toNat)
  case atStart => exact ⟨k, hk, rfl, rfl, rfl⟩
  case round =>
    obtain ⟨m, hm, rfl, he, rfl⟩ := hrel
    have HE := Lib.hid he
    clear he
    have hm0 : (0 : Int) ≤ (m : Int) := Int.natCast_nonneg _
    by_cases hlt : m < b.size
    · have hd : decide ((m : Int) < (b.size : Int)) = true := decide_eq_true (by omega)
      have ix := ix_byte b m hlt
      cases hp : P.inner (P.byt b m) with
      | true =>
        have HN := Lib.hid (P.ext_in hlt hp)
        go_wp2_with (go_at_call 38; refine (rinner _ _).mono ?_; rintro e w' ⟨rfl, rfl⟩)
        go_roundw
        case rel => exact ⟨m + 1, by omega, by go_num, by rw [← HE.out, HN.out], by first | trivial | rfl⟩
        case measure => simp [intOf]; omega
      | false =>
        have HN := Lib.hid (P.ext_out (b := b) hp)
        go_wp2_with (go_at_call 38; refine (rinner _ _).mono ?_; rintro e w' ⟨rfl, rfl⟩)
        go_ret
        exact ⟨by rw [← HE.out, HN.out]; rfl, rfl⟩
    · obtain rfl : m = b.size := by omega
      have HN := Lib.hid (P.ext_end (p := P.inner) (Nat.le_refl b.size))
      go_wp2_with fail
      go_ret
      exact ⟨by rw [← HE.out, HN.out]; rfl, rfl⟩
end W
end Go.Proofs.YtbimjejidlohnaaDoor
