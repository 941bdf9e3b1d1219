/- Names and numbers by themselves: plain facts, no program. -/
import Derived.Test.YtbimjejidlohnaaDoorJoin
import Derived.Test.YtbimjejidlohnaaDoorSigns
namespace Go.Proofs.YtbimjejidlohnaaDoor
namespace P
theorem run_all_true {p : Nat → Bool} {b : ByteArray} : ∀ f k, (∀ x, k ≤ x → x < k + f → p (byt b x) = true) → run p b f k = k + f
  | 0, k, _ => rfl
  | f + 1, k, h => by
    rw [run, if_pos (h k (Nat.le_refl _) (by omega)), run_all_true f (k + 1) (fun x h1 h2 => h x (by omega) (by omega))]
    omega
theorem ext_full {p : Nat → Bool} {b : ByteArray} (h : ∀ x, x < b.size → p (byt b x) = true) : ext p b 0 = b.size := by
  unfold ext
  rw [run_all_true _ _ (fun x _ h2 => h x (by omega))]
  omega
theorem extract_full (b : ByteArray) : b.extract 0 b.size = b := by
  apply ext_list
  rw [list_extract, List.drop_zero]
  have := list_size b
  exact List.take_of_length_le (by omega)
/-- A text that is one token. -/
theorem scan_alone {b : ByteArray} {t : Tok} (h0 : 0 < b.size) (hb : b.size ≤ 262144) (h1 : byt b 0 ≠ 32) (h2 : byt b 0 ≠ 9) (h3 : byt b 0 ≠ 35) (ho : one b 0 = .ok t) (ht : t.text.size = b.size) : scanAll b = .ok [t, ⟨0, b.size, ByteArray.empty, 0⟩] := by
  unfold scanAll
  rw [if_neg (by omega), scanFrom_one h0 h1 h2 h3 ho, ht, Nat.zero_add, scanFrom_end (Nat.le_refl _)]
  rfl
theorem scan_alone_bad {b : ByteArray} {e : Nat} (h0 : 0 < b.size) (hb : b.size ≤ 262144) (h1 : byt b 0 ≠ 32) (h2 : byt b 0 ≠ 9) (h3 : byt b 0 ≠ 35) (ho : one b 0 = .error e) : scanAll b = .error (0, e) := by
  unfold scanAll
  rw [if_neg (by omega), scanFrom_bad h0 h1 h2 h3 ho]
/-- A name, or a variable. -/
theorem scan_letters {b : ByteArray} (h0 : 0 < b.size) (hb : b.size ≤ 262144) (hl : small (byt b 0) = true ∨ capital (byt b 0) = true) (hi : ∀ x, x < b.size → inner (byt b x) = true) :
    scanAll b = if 8 < b.size then .error (0, 5) else .ok [⟨if small (byt b 0) = true then 2 else 3, 0, b, 0⟩, ⟨0, b.size, ByteArray.empty, 0⟩] := by
  have he := ext_full hi
  have hs := W.small_iff (byt b 0)
  have hc := W.capital_iff (byt b 0)
  have hn : byt b 0 ≠ 10 ∧ byt b 0 ≠ 32 ∧ byt b 0 ≠ 9 ∧ byt b 0 ≠ 35 := by
    rcases hl with h | h
    · have := hs.1 h; omega
    · have := hc.1 h; omega
  have ho : one b 0 = if 8 < b.size then .error 5 else .ok ⟨if small (byt b 0) = true then 2 else 3, 0, b, 0⟩ := by
    unfold one
    rw [if_neg hn.1, he, Nat.sub_zero, extract_full]
    by_cases h1 : small (byt b 0) = true
    · rw [if_pos h1, if_pos h1]
    · rw [if_neg h1, if_neg h1, if_pos (hl.resolve_left h1)]
  by_cases h8 : 8 < b.size
  · rw [if_pos h8] at ho ⊢
    exact scan_alone_bad h0 hb hn.2.1 hn.2.2.1 hn.2.2.2 ho
  · rw [if_neg h8] at ho ⊢
    exact scan_alone h0 hb hn.2.1 hn.2.2.1 hn.2.2.2 ho rfl
/-- A number. -/
theorem scan_digits {b : ByteArray} (h0 : 0 < b.size) (hb : b.size ≤ 262144) (hi : ∀ x, x < b.size → digit (byt b x) = true) :
    scanAll b = if 1 < b.size ∧ byt b 0 = 48 ∨ 9999 < num b 0 b.size then .error (0, 4) else .ok [⟨4, 0, b, num b 0 b.size⟩, ⟨0, b.size, ByteArray.empty, 0⟩] := by
  have he := ext_full hi
  have hd := hi 0 h0
  have hr := (W.digit_iff (byt b 0)).1 hd
  have hs : ¬ small (byt b 0) = true := by rw [W.small_iff]; omega
  have hc : ¬ capital (byt b 0) = true := by rw [W.capital_iff]; omega
  have ho : one b 0 = if 1 < b.size ∧ byt b 0 = 48 ∨ 9999 < num b 0 b.size then .error 4 else .ok ⟨4, 0, b, num b 0 b.size⟩ := by
    unfold one
    rw [if_neg (by omega), if_neg hs, if_neg hc, if_pos hd, he, Nat.sub_zero, extract_full]
  by_cases hk : 1 < b.size ∧ byt b 0 = 48 ∨ 9999 < num b 0 b.size
  · rw [if_pos hk] at ho ⊢
    exact scan_alone_bad h0 hb (by omega) (by omega) (by omega) ho
  · rw [if_neg hk] at ho ⊢
    exact scan_alone h0 hb (by omega) (by omega) (by omega) ho rfl
/-- A zero that leads is dropped: the number is the same. -/
theorem num_tail {b : ByteArray} (h1 : 1 < b.size) (hz : byt b 0 = 48) : num (b.extract 1 b.size) 0 (b.size - 1) = num b 0 b.size := by
  unfold num
  rw [Nat.sub_zero, Nat.sub_zero, dec_extract (Nat.le_refl _) _ _ _ (by omega)]
  rw [show b.size = (b.size - 1) + 1 by omega, dec, hz]
  rfl
theorem byt_tail {b : ByteArray} {x : Nat} (h : x < b.size - 1) : byt (b.extract 1 b.size) x = byt b (x + 1) := by
  rw [byt_extract (Nat.le_refl _) (by omega), Nat.add_comm]
theorem size_tail {b : ByteArray} : (b.extract 1 b.size).size = b.size - 1 := extract_size (Nat.le_refl _)
/-- The five digits of a number. -/
def five (n : Nat) : ByteArray := ⟨#[UInt8.ofNat (48 + n / 10000), UInt8.ofNat (48 + n / 1000 % 10), UInt8.ofNat (48 + n / 100 % 10), UInt8.ofNat (48 + n / 10 % 10), UInt8.ofNat (48 + n % 10)]⟩
theorem u8 (c : Nat) (h : c < 256) : (UInt8.ofNat c).toNat = c := by rw [UInt8.toNat_ofNat', Nat.mod_eq_of_lt (by omega)]
theorem five0 (n : Nat) (h : n < 20000) : byt (five n) 0 = 48 + n / 10000 := u8 _ (by omega)
theorem five1 (n : Nat) : byt (five n) 1 = 48 + n / 1000 % 10 := u8 _ (by omega)
theorem five2 (n : Nat) : byt (five n) 2 = 48 + n / 100 % 10 := u8 _ (by omega)
theorem five3 (n : Nat) : byt (five n) 3 = 48 + n / 10 % 10 := u8 _ (by omega)
theorem five4 (n : Nat) : byt (five n) 4 = 48 + n % 10 := u8 _ (by omega)
theorem five_size (n : Nat) : (five n).size = 5 := rfl
theorem five_digits (n : Nat) (h : n < 20000) : ∀ x, x < (five n).size → digit (byt (five n) x) = true := by
  intro x hx
  rw [five_size] at hx
  rw [W.digit_iff]
  have h0 := five0 n h
  have h1 := five1 n
  have h2 := five2 n
  have h3 := five3 n
  have h4 := five4 n
  match x, hx with
  | 0, _ => omega
  | 1, _ => omega
  | 2, _ => omega
  | 3, _ => omega
  | 4, _ => omega
theorem five_num (n : Nat) (h : n < 20000) : num (five n) 0 (five n).size = n := by
  rw [five_size]
  show dec (five n) 5 0 0 = n
  simp only [dec, five0 n h, five1, five2, five3, five4, Nat.zero_add, Nat.reduceAdd]
  omega
/-- What is being spelt: its first byte is c, the others may stand within a name. -/
def Spelt (s : ByteArray) (c : Nat) : Prop := 0 < s.size ∧ byt s 0 = c ∧ ∀ x, 1 ≤ x → x < s.size → inner (byt s x) = true
theorem byt_bt (c : Nat) (h : c < 256) : byt (W.bt c) 0 = c := u8 c h
theorem spelt_one (c : Nat) (h : c < 256) : Spelt (W.bt c) c := ⟨Nat.one_pos, byt_bt c h, fun x h1 h2 => by have : (W.bt c).size = 1 := rfl; omega⟩
theorem byt_append_left {s t : ByteArray} {x : Nat} (h : x < s.size) : byt (s ++ t) x = byt s x := by
  unfold byt
  rw [list_append]
  simp only [List.getD_eq_getElem?_getD]
  rw [List.getElem?_append_left (by rw [list_size]; exact h)]
theorem byt_append_right {s t : ByteArray} {x : Nat} (h : s.size ≤ x) : byt (s ++ t) x = byt t (x - s.size) := by
  unfold byt
  rw [list_append]
  simp only [List.getD_eq_getElem?_getD]
  rw [List.getElem?_append_right (by rw [list_size]; exact h), list_size]
theorem spelt_more {s : ByteArray} {c d : Nat} (h : Spelt s c) (hd : d < 256) (hi : inner d = true) : Spelt (s ++ W.bt d) c := by
  have hz : (s ++ W.bt d).size = s.size + 1 := by rw [ByteArray.size_append]; rfl
  refine ⟨by omega, by rw [byt_append_left h.1]; exact h.2.1, fun x h1 h2 => ?_⟩
  by_cases hx : x < s.size
  · rw [byt_append_left hx]; exact h.2.2 x h1 hx
  · rw [byt_append_right (by omega), show x - s.size = 0 by omega, byt_bt d hd]; exact hi
end P
end Go.Proofs.YtbimjejidlohnaaDoor
