/- What digits tell, in the program and in the document's answer. -/
import Derived.Test.YtbimjejidlohnaaDoorSpans
namespace Go.Proofs.YtbimjejidlohnaaDoor
open Go.RowKit
namespace P
theorem byt_extract {b : ByteArray} {k e j : Nat} (he : e ≤ b.size) (hj : k + j < e) : byt (b.extract k e) j = byt b (k + j) := by
  unfold byt
  have h : (b.extract k e).data.toList.getD j 0 = b.data.toList.getD (k + j) 0 := by
    have hs : b.data.size = b.size := rfl
    rw [ByteArray.data_extract]
    simp only [List.getD, Array.getElem?_toList]
    rw [Array.getElem?_extract]
    rw [if_pos (by omega)]
  rw [h]
theorem dec_extract {b : ByteArray} {k e : Nat} (he : e ≤ b.size) : ∀ f j v, k + j + f ≤ e → dec (b.extract k e) f j v = dec b f (k + j) v
  | 0, _, _, _ => rfl
  | f + 1, j, v, h => by
    rw [dec, dec, byt_extract he (by omega), dec_extract he f (j + 1) _ (by omega)]
    rfl
theorem dec_snoc (b : ByteArray) : ∀ f k v, dec b (f + 1) k v = dec b f k v * 10 + (byt b (k + f) - 48)
  | 0, k, v => by rw [dec, dec, dec]; rfl
  | f + 1, k, v => by
    rw [dec, dec_snoc b f (k + 1), dec, show k + 1 + f = k + (f + 1) by omega]
theorem digit_iff {c : Nat} : digit c = true ↔ 48 ≤ c ∧ c ≤ 57 := by unfold digit; simp
theorem ext_all (p : Nat → Bool) (b : ByteArray) : ∀ f k, ∀ j, k ≤ j → j < run p b f k → p (byt b j) = true
  | 0, k, j, h1, h2 => by rw [run] at h2; omega
  | f + 1, k, j, h1, h2 => by
    rw [run] at h2
    split at h2
    · rename_i hp
      by_cases e : j = k
      · subst e; exact hp
      · exact ext_all p b f (k + 1) j (by omega) h2
    · omega
theorem ext_digit {b : ByteArray} {k j : Nat} (h1 : k ≤ j) (h2 : j < ext digit b k) : 48 ≤ byt b j ∧ byt b j ≤ 57 := digit_iff.1 (ext_all digit b _ k j h1 h2)
end P
namespace W

set_option maxRecDepth 100000 in
set_option maxHeartbeats 2000000 in
theorem valueOf_any (d : ByteArray) (hd : ∀ j, j < d.size → 48 ≤ P.byt d j ∧ P.byt d j ≤ 57) (hb : d.size ≤ 281474976710656) (w : World) :
    Calls Tryd.prog 37 #[.string d] w fun e w' => (∃ v : Nat, e = .returned (.int .i64 (v : Int)) ∧ (9999 < v ↔ 9999 < P.dec d d.size 0 0) ∧ (v ≤ 9999 → v = P.dec d d.size 0 0)) ∧ w' = w := by
  have HD := Lib.hid hd
  clear hd
  go_enter Tryd.func37, Tryd.ntmps37
  go_wp2_with fail
  go_loopw [3, 4] (fun x i wr => ∃ m v : Nat, m ≤ d.size ∧ i = .int .i64 m ∧ x = .int .i64 v ∧ v ≤ 99999 ∧ P.dec d (d.size - m) m v = P.dec d d.size 0 0 ∧ wr = w) (fun _ i _ => d.size - (intOf i).toNat)
  case atStart => exact ⟨0, 0, Nat.zero_le _, rfl, rfl, by decide, rfl, rfl⟩
  case round =>
    obtain ⟨m, v, hm, rfl, rfl, hv, he, rfl⟩ := hrel
    have HE := Lib.hid he
    clear he
    have hm0 : (0 : Int) ≤ (m : Int) := Int.natCast_nonneg _
    have hv0 : (0 : Int) ≤ (v : Int) := Int.natCast_nonneg _
    by_cases hlt : m < d.size
    · have hq : decide ((m : Int) < (d.size : Int)) = true := decide_eq_true (by omega)
      by_cases hv9 : v ≤ 9999
      · have hq2 : decide ((v : Int) ≤ 9999) = true := decide_eq_true (by omega)
        have hq3 : decide (v ≤ 9999) = true := decide_eq_true hv9
        have ix := ix_byte d m hlt
        obtain ⟨c, hc⟩ : ∃ c, P.byt d m = c := ⟨_, rfl⟩
        have hdd := HD.out m hlt
        rw [hc] at ix hdd
        obtain ⟨hc1, hc2⟩ := hdd
        have HN := Lib.hid (show P.dec d (d.size - (m + 1)) (m + 1) (v * 10 + (c - 48)) = P.dec d d.size 0 0 by
          rw [← HE.out, show d.size - m = (d.size - (m + 1)) + 1 by omega, P.dec, hc])
        clear hc
        go_wp2_with fail
        go_roundw
        case rel => exact ⟨m + 1, v * 10 + (c - 48), by omega, by go_num, by go_num, by omega, HN.out, by first | trivial | rfl⟩
        case measure => simp [intOf]; omega
      · have hq2 : decide ((v : Int) ≤ 9999) = false := decide_eq_false (by omega)
        have hq3 : decide (v ≤ 9999) = false := decide_eq_false hv9
        have HN := Lib.hid (show 9999 < P.dec d d.size 0 0 by
          rw [← HE.out]
          have := P.dec_ge d (d.size - m) m v
          omega)
        have HV := Lib.hid hv9
        clear hv9
        go_wp2_with fail
        go_ret
        exact ⟨⟨v, rfl, ⟨fun _ => HN.out, fun _ => by have := HV.out; omega⟩, fun h => absurd h HV.out⟩, rfl⟩
    · obtain rfl : m = d.size := by omega
      have HN := Lib.hid (show v = P.dec d d.size 0 0 by rw [← HE.out, Nat.sub_self]; rfl)
      go_wp2_with fail
      go_ret
      exact ⟨⟨v, rfl, by rw [HN.out], fun _ => HN.out⟩, rfl⟩

set_option maxRecDepth 100000 in
set_option maxHeartbeats 2000000 in
theorem rnumber_any (b : ByteArray) (k : Nat) (hk : k ≤ b.size) (hb : b.size ≤ 281474976710656) (w : World) :
    Calls Tryd.prog 31 #[.string b, .int .i64 (k : Int)] w fun e w' => e = .returned (.tuple #[.int .i64 ((P.ext P.digit b k : Nat) : Int), .int .i64 ((min (P.num b k (P.ext P.digit b k)) 10000 : Nat) : Int)]) ∧ w' = w := by
  go_enter Tryd.func31, Tryd.ntmps31
  go_wp2_with fail
  go_loopw [6, 7] (fun i x wr => ∃ m v : Nat, k ≤ m ∧ m ≤ b.size ∧ i = .int .i64 m ∧ x = .int .i64 v ∧ v = min (P.dec b (m - k) k 0) 10000 ∧ P.ext P.digit b m = P.ext P.digit b k ∧ wr = w) (fun i _ _ => b.size - (intOf i).toNat)
  case atStart => exact ⟨k, 0, Nat.le_refl _, hk, rfl, rfl, by rw [Nat.sub_self]; rfl, rfl, rfl⟩
  case round =>
    obtain ⟨m, v, hkm, hm, rfl, rfl, hv, he, rfl⟩ := hrel
    have HE := Lib.hid he
    have HV := Lib.hid hv
    have hv1 : v ≤ 10000 := by rw [hv]; omega
    clear he hv
    have hm0 : (0 : Int) ≤ (m : Int) := Int.natCast_nonneg _
    have hv0 : (0 : Int) ≤ (v : Int) := Int.natCast_nonneg _
    by_cases hlt : m < b.size
    · have hq : decide ((m : Int) < (b.size : Int)) = true := decide_eq_true (by omega)
      have ix := ix_byte b m hlt
      obtain ⟨c, hc⟩ : ∃ c, P.byt b m = c := ⟨_, rfl⟩
      have HC := Lib.hid hc
      rw [hc] at ix
      cases hp : P.digit c with
      | true =>
        obtain ⟨hc1, hc2⟩ := P.digit_iff.1 hp
        have HN := Lib.hid (P.ext_in (p := P.digit) hlt (by rw [hc]; exact hp))
        have HS := Lib.hid (show min (P.dec b (m + 1 - k) k 0) 10000 = min (v * 10 + (c - 48)) 10000 by
          have h1 := P.dec_snoc b (m - k) k 0
          rw [show m - k + 1 = m + 1 - k by omega, show k + (m - k) = m by omega, hc] at h1
          have h2 := HV.out
          omega)
        clear hc
        by_cases h9 : 10 * v + (c - 48) ≤ 10000
        · go_wp2_with (go_at_call 29; refine (rdigit _ _).mono ?_; rintro e w' ⟨rfl, rfl⟩)
          go_roundw
          case rel => exact ⟨m + 1, v * 10 + (c - 48), by omega, by omega, by go_num, by go_num, by rw [HS.out]; omega, by rw [← HE.out, HN.out], by first | trivial | rfl⟩
          case measure => simp [intOf]; omega
        · go_wp2_with (go_at_call 29; refine (rdigit _ _).mono ?_; rintro e w' ⟨rfl, rfl⟩)
          go_roundw
          case rel => exact ⟨m + 1, 10000, by omega, by omega, by go_num, by go_num, by rw [HS.out]; omega, by rw [← HE.out, HN.out], by first | trivial | rfl⟩
          case measure => simp [intOf]; omega
      | false =>
        have HN := Lib.hid (P.ext_out (p := P.digit) (b := b) (k := m) (by rw [hc]; exact hp))
        clear hc
        go_wp2_with (go_at_call 29; refine (rdigit _ _).mono ?_; rintro e w' ⟨rfl, rfl⟩)
        go_ret2
        exact ⟨by rw [← HE.out, HN.out]; unfold P.num; rw [← HV.out]; rfl, rfl⟩
    · obtain rfl : m = b.size := by omega
      have HN := Lib.hid (P.ext_end (p := P.digit) (Nat.le_refl b.size))
      go_wp2_with fail
      go_ret2
      exact ⟨by rw [← HE.out, HN.out]; unfold P.num; rw [← HV.out]; rfl, rfl⟩
end W
end Go.Proofs.YtbimjejidlohnaaDoor
