/- A function done to a list, place by place: plain facts, no program. Plain facts on sets of 256 numbers as four words of 64 bits: what or, and, and-not do to the words, and that a set is its words. No program is named here. The sum of a word's bits by halves, quarters and bytes is the number of its bits that are set. Plain arithmetic; no program is named. The numbers of a set, rising: word by word, and bit by bit from the least one on. Plain facts on lists; no program is named. The part of a game: plain facts, no program. -/
import Derived.Test.YtghdjkpndhcplaaDoorGame
import Derived.Laws.Bits64b
import Derived.Laws.BitsLemmas
import Derived.Lib.TrailingZeros
section
namespace Go.Proofs.YtghdjkpndhcplaaDoor
namespace P
/-- A function done to the first k of a list. -/
def upto (f : Int → Int) (l : List Int) (k : Nat) : List Int := (l.take k).map f ++ l.drop k
theorem upto_zero (f : Int → Int) (l : List Int) : upto f l 0 = l := by simp [upto]
theorem upto_all (f : Int → Int) (l : List Int) (k : Nat) (h : l.length ≤ k) : upto f l k = l.map f := by
  unfold upto
  rw [List.take_of_length_le h, List.drop_eq_nil_of_le h, List.append_nil]
theorem upto_length (f : Int → Int) (l : List Int) (k : Nat) : (upto f l k).length = l.length := by
  unfold upto
  simp only [List.length_append, List.length_map, List.length_take, List.length_drop]
  omega
theorem upto_at (f : Int → Int) (l : List Int) (k : Nat) (h : k < l.length) : (upto f l k)[k]? = some (l.getD k 0) := by
  unfold upto
  rw [List.getElem?_append_right (by simp; omega), List.length_map, List.length_take, List.getElem?_drop, List.getD_eq_getElem?_getD]
  rw [show k + (k - min k l.length) = k by omega, List.getElem?_eq_getElem h]
  rfl
theorem upto_set (f : Int → Int) (l : List Int) (k : Nat) (h : k < l.length) : (upto f l k).set k (f (l.getD k 0)) = upto f l (k + 1) := by
  apply List.ext_getElem?
  intro i
  rw [List.getElem?_set]
  by_cases hi : k = i
  · subst hi
    rw [if_pos rfl, if_pos (by rw [upto_length]; exact h)]
    unfold upto
    rw [List.getElem?_append_left (by simp; omega), List.getElem?_map, List.getElem?_take, if_pos (by omega), List.getD_eq_getElem?_getD, List.getElem?_eq_getElem h]
    rfl
  · rw [if_neg hi]
    unfold upto
    by_cases hlt : i < k
    · rw [List.getElem?_append_left (by simp; omega), List.getElem?_append_left (by simp; omega), List.getElem?_map, List.getElem?_map, List.getElem?_take, List.getElem?_take, if_pos hlt, if_pos (by omega)]
    · rw [List.getElem?_append_right (by simp; omega), List.getElem?_append_right (by simp; omega)]
      simp only [List.length_map, List.length_take, List.getElem?_drop]
      congr 1
      omega
def G.half (g : G) (s : Int) (k : Nat) : G := ⟨upto (1 - ·) g.owner k, upto (· + s) g.prio k, g.moves⟩
end P
end Go.Proofs.YtghdjkpndhcplaaDoor
end
section
namespace Go.Proofs.YtghdjkpndhcplaaDoor
namespace P

/-- The word number i of a set. -/
def wrd (s : BitVec 256) (i : Nat) : Int := ((s.extractLsb' (64 * i) 64).toNat : Int)

theorem wrd_bd (s : BitVec 256) (i : Nat) : 0 ≤ wrd s i ∧ wrd s i < 18446744073709551616 := by
  unfold wrd
  have := (s.extractLsb' (64 * i) 64).isLt
  omega

theorem wrd_or (s t : BitVec 256) (i : Nat) : bits .or .u64 (wrd s i) (wrd t i) = wrd (s ||| t) i := by
  unfold wrd
  have h1 := (s.extractLsb' (64 * i) 64).isLt
  have h2 := (t.extractLsb' (64 * i) 64).isLt
  rw [bits_or_u64_nat _ _ (by omega) (by omega), ← BitVec.toNat_or]
  congr 2
  ext j hj
  simp [BitVec.getElem_extractLsb']

theorem wrd_and (s t : BitVec 256) (i : Nat) : bits .and .u64 (wrd s i) (wrd t i) = wrd (s &&& t) i := by
  unfold wrd
  have h1 := (s.extractLsb' (64 * i) 64).isLt
  have h2 := (t.extractLsb' (64 * i) 64).isLt
  rw [bits_and_u64_nat _ _ (by omega) (by omega), ← BitVec.toNat_and]
  congr 2
  ext j hj
  simp [BitVec.getElem_extractLsb']

theorem bits_andNot_u64 (x y : BitVec 64) : bits .andNot .u64 (x.toNat : Int) (y.toNat : Int) = ((x &&& ~~~y).toNat : Int) := by
  have h1 : BitVec.ofInt 64 (x.toNat : Int) = x := by rw [BitVec.ofInt_natCast]; simp
  have h2 : BitVec.ofInt 64 (y.toNat : Int) = y := by rw [BitVec.ofInt_natCast]; simp
  have h3 := (x &&& ~~~y).isLt
  show IntKind.u64.wrap ((BitVec.ofInt 64 (x.toNat : Int) &&& ~~~ BitVec.ofInt 64 (y.toNat : Int)).toNat : Int) = _
  rw [h1, h2, IntKind.wrap_u64]
  omega

theorem wrd_minus (s t : BitVec 256) (i : Nat) (hi : i < 4) : bits .andNot .u64 (wrd s i) (wrd t i) = wrd (s &&& ~~~t) i := by
  unfold wrd
  rw [bits_andNot_u64]
  congr 2
  ext j hj
  simp [BitVec.getElem_extractLsb']
  have : 64 * i + j < 256 := by omega
  simp [this]

theorem wrd_ext {s t : BitVec 256} (h : ∀ i, i < 4 → wrd s i = wrd t i) : s = t := by
  apply BitVec.eq_of_getLsbD_eq
  intro j hj
  have h1 := h (j / 64) (by omega)
  unfold wrd at h1
  have h2 : s.extractLsb' (64 * (j / 64)) 64 = t.extractLsb' (64 * (j / 64)) 64 := by
    apply BitVec.eq_of_toNat_eq
    exact Int.ofNat_inj.1 h1
  have h3 := congrArg (fun x => x.getLsbD (j % 64)) h2
  simp only [BitVec.getLsbD_extractLsb'] at h3
  have e : 64 * (j / 64) + j % 64 = j := by omega
  have e2 : j % 64 < 64 := by omega
  simpa [e, e2] using h3

theorem wrd_eq4 {s t : BitVec 256} (h0 : wrd s 0 = wrd t 0) (h1 : wrd s 1 = wrd t 1) (h2 : wrd s 2 = wrd t 2) (h3 : wrd s 3 = wrd t 3) : s = t := by
  apply wrd_ext
  intro i hi
  rcases (by omega : i = 0 ∨ i = 1 ∨ i = 2 ∨ i = 3) with rfl | rfl | rfl | rfl
  · exact h0
  · exact h1
  · exact h2
  · exact h3

theorem wrd_nat (s : BitVec 256) (i : Nat) : wrd s i = ((s.toNat / 2 ^ (64 * i) % 2 ^ 64 : Nat) : Int) := by
  unfold wrd
  rw [BitVec.extractLsb'_toNat, Nat.shiftRight_eq_div_pow]

/-- Four words make a set. -/
theorem of_words (a b c d : Int) (ha : 0 ≤ a ∧ a < 18446744073709551616) (hb : 0 ≤ b ∧ b < 18446744073709551616) (hc : 0 ≤ c ∧ c < 18446744073709551616) (hd : 0 ≤ d ∧ d < 18446744073709551616) :
    ∃ s : BitVec 256, a = wrd s 0 ∧ b = wrd s 1 ∧ c = wrd s 2 ∧ d = wrd s 3 := by
  obtain ⟨a, rfl⟩ := Int.eq_ofNat_of_zero_le ha.1
  obtain ⟨b, rfl⟩ := Int.eq_ofNat_of_zero_le hb.1
  obtain ⟨c, rfl⟩ := Int.eq_ofNat_of_zero_le hc.1
  obtain ⟨d, rfl⟩ := Int.eq_ofNat_of_zero_le hd.1
  refine ⟨BitVec.ofNat 256 (a + b * 2 ^ 64 + c * 2 ^ 128 + d * 2 ^ 192), ?_, ?_, ?_, ?_⟩
  all_goals rw [wrd_nat, BitVec.toNat_ofNat]; skip
  all_goals omega

/-- The set of n alone; nothing where n may be in no set. -/
def bit (n : Int) : BitVec 256 := if 0 ≤ n ∧ n < 256 then BitVec.twoPow 256 n.toNat else 0

theorem bit_out {n : Int} (h : n < 0 ∨ 256 ≤ n) : bit n = 0 := by unfold bit; rw [if_neg (by omega)]
theorem bit_in {n : Int} (h0 : 0 ≤ n) (h1 : n < 256) : bit n = BitVec.twoPow 256 n.toNat := by unfold bit; rw [if_pos ⟨h0, h1⟩]

theorem getLsbD_bit (n : Int) (i : Nat) : (bit n).getLsbD i = decide (0 ≤ n ∧ n < 256 ∧ n = (i : Int)) := by
  unfold bit
  split
  · rename_i h
    rw [BitVec.getLsbD_twoPow]
    by_cases e : n = (i : Int)
    · subst e
      simp [h]
      omega
    · have e2 : ¬ n.toNat = i := by omega
      simp [e, e2]
  · rename_i h
    simp
    omega

theorem wrd_bit (n : Int) (k : Nat) (h0 : 0 ≤ n) (h1 : n < 256) (hk : n / 64 = (k : Int)) : IntKind.u64.wrap (2 ^ (n % 64).toNat) = wrd (bit n) k := by
  have hp : (2 : Nat) ^ (n % 64).toNat < 2 ^ 64 := Nat.pow_lt_pow_right (by decide) (by omega)
  have e : (bit n).extractLsb' (64 * k) 64 = BitVec.twoPow 64 (n % 64).toNat := by
    apply BitVec.eq_of_getLsbD_eq
    intro j hj
    rw [BitVec.getLsbD_extractLsb', getLsbD_bit, BitVec.getLsbD_twoPow]
    simp only [hj, decide_true, Bool.true_and]
    apply Bool.eq_iff_iff.2
    simp
    omega
  unfold wrd
  rw [e, BitVec.toNat_twoPow, IntKind.wrap_u64, Nat.mod_eq_of_lt hp]
  have hp2 : ((2 : Int) ^ (n % 64).toNat) = ((2 ^ (n % 64).toNat : Nat) : Int) := by simp
  rw [hp2]
  generalize (2 ^ (n % 64).toNat : Nat) = q at *
  omega

theorem wrd_zero (k : Nat) : wrd 0 k = 0 := by unfold wrd; simp

theorem wrd_bit_other (n : Int) (j : Nat) (hk : n / 64 ≠ (j : Int)) : wrd (bit n) j = 0 := by
  have e : (bit n).extractLsb' (64 * j) 64 = 0 := by
    apply BitVec.eq_of_getLsbD_eq
    intro i hi
    rw [BitVec.getLsbD_extractLsb', getLsbD_bit]
    simp
    omega
  unfold wrd
  rw [e]
  simp

theorem wrd_or_bit_other (s : BitVec 256) (n : Int) (j : Nat) (hk : n / 64 ≠ (j : Int)) : wrd (s ||| bit n) j = wrd s j := by
  have e : (s ||| bit n).extractLsb' (64 * j) 64 = s.extractLsb' (64 * j) 64 := by
    apply BitVec.eq_of_getLsbD_eq
    intro i hi
    rw [BitVec.getLsbD_extractLsb', BitVec.getLsbD_extractLsb', BitVec.getLsbD_or, getLsbD_bit]
    have : ¬ n = ((64 * j + i : Nat) : Int) := by omega
    simp [hi]
    omega
  unfold wrd
  rw [e]
theorem wrd_less_bit_other (s : BitVec 256) (n : Int) (j : Nat) (hj : j < 4) (hk : n / 64 ≠ (j : Int)) : wrd (s &&& ~~~ bit n) j = wrd s j := by
  have e : (s &&& ~~~ bit n).extractLsb' (64 * j) 64 = s.extractLsb' (64 * j) 64 := by
    apply BitVec.eq_of_getLsbD_eq
    intro i hi
    rw [BitVec.getLsbD_extractLsb', BitVec.getLsbD_extractLsb', BitVec.getLsbD_and, BitVec.getLsbD_not, getLsbD_bit]
    have h1 : 64 * j + i < 256 := by omega
    simp [hi, h1]
    omega
  unfold wrd
  rw [e]

theorem with_bit_out (s : BitVec 256) {n : Int} (h : n < 0 ∨ 256 ≤ n) : s ||| bit n = s := by rw [bit_out h]; simp
theorem less_bit_out (s : BitVec 256) {n : Int} (h : n < 0 ∨ 256 ≤ n) : s &&& ~~~ bit n = s := by
  rw [bit_out h]
  apply BitVec.eq_of_getLsbD_eq
  intro i hi
  rw [BitVec.getLsbD_and, BitVec.getLsbD_not, show (0 : BitVec 256).getLsbD i = false from BitVec.getLsbD_zero]
  simp [hi]

/-- Is n in the set? -/
def has (s : BitVec 256) (n : Int) : Bool := decide (0 ≤ n) && s.getLsbD n.toNat

theorem has_out (s : BitVec 256) {n : Int} (h : n < 0 ∨ 256 ≤ n) : has s n = false := by
  unfold has
  rcases h with h | h
  · have : ¬ 0 ≤ n := by omega
    simp [this]
  · rw [BitVec.getLsbD_of_ge _ _ (by omega)]; simp

theorem has_word (s : BitVec 256) (n : Int) (k : Nat) (h0 : 0 ≤ n) (hk : n / 64 = (k : Int)) : (bits .and .u64 (wrd s k / 2 ^ (n % 64).toNat) 1 == 1) = has s n := by
  obtain ⟨m, rfl⟩ := Int.eq_ofNat_of_zero_le h0
  have hm : ((m : Int) % 64).toNat = m % 64 := by omega
  have hm2 : m = 64 * k + m % 64 := by omega
  have hw := (s.extractLsb' (64 * k) 64).isLt
  unfold has wrd
  rw [hm]
  have e : (((s.extractLsb' (64 * k) 64).toNat : Int) / 2 ^ (m % 64)) = (((s.extractLsb' (64 * k) 64).toNat / 2 ^ (m % 64) : Nat) : Int) := by simp
  have hlt : (s.extractLsb' (64 * k) 64).toNat / 2 ^ (m % 64) < 18446744073709551616 := Nat.lt_of_le_of_lt (Nat.div_le_self _ _) (by omega)
  rw [e]
  have := bits_and_u64_nat ((s.extractLsb' (64 * k) 64).toNat / 2 ^ (m % 64)) 1 hlt (by decide)
  rw [Nat.and_one_is_mod] at this
  rw [show ((1 : Int)) = ((1 : Nat) : Int) from rfl, this]
  have e3 : (s.extractLsb' (64 * k) 64).getLsbD (m % 64) = s.getLsbD m := by
    rw [BitVec.getLsbD_extractLsb']
    have : m % 64 < 64 := by omega
    rw [← hm2]
    simp [this]
  have e4 : (s.extractLsb' (64 * k) 64).getLsbD (m % 64) = ((s.extractLsb' (64 * k) 64).toNat).testBit (m % 64) := rfl
  simp only [Int.toNat_natCast]
  rw [← e3, e4, Nat.testBit_eq_decide_div_mod_eq]
  generalize (s.extractLsb' (64 * k) 64).toNat / 2 ^ (m % 64) = q
  have h0 : decide ((0 : Int) ≤ (m : Int)) = true := by simp
  rw [h0, Bool.true_and]
  apply Bool.eq_iff_iff.2
  rw [beq_iff_eq, decide_eq_true_iff]
  omega

/-- The set of all numbers below n. -/
def full (n : Int) : BitVec 256 := BitVec.ofNat 256 (2 ^ n.toNat - 1)
theorem getLsbD_full (n : Int) (i : Nat) : (full n).getLsbD i = decide (i < 256 ∧ (i : Int) < n) := by
  unfold full
  rw [BitVec.getLsbD_ofNat, Nat.testBit_two_pow_sub_one]
  apply Bool.eq_iff_iff.2
  simp
theorem full_ones (n : Int) (j : Nat) (hj : j < 4) (h : 64 * ((j : Int) + 1) ≤ n) : wrd (full n) j = 18446744073709551615 := by
  have e : (full n).extractLsb' (64 * j) 64 = BitVec.allOnes 64 := by
    apply BitVec.eq_of_getLsbD_eq
    intro i hi
    rw [BitVec.getLsbD_extractLsb', getLsbD_full, BitVec.getLsbD_allOnes]
    apply Bool.eq_iff_iff.2
    simp
    omega
  unfold wrd
  rw [e]
  decide
theorem full_none (n : Int) (j : Nat) (h : n ≤ 64 * (j : Int)) : wrd (full n) j = 0 := by
  have e : (full n).extractLsb' (64 * j) 64 = 0#64 := by
    apply BitVec.eq_of_getLsbD_eq
    intro i hi
    rw [BitVec.getLsbD_extractLsb', getLsbD_full, BitVec.getLsbD_zero]
    apply Bool.eq_iff_iff.2
    simp
    omega
  unfold wrd
  rw [e]
  decide
theorem full_part (n : Int) (k : Nat) (hk : k < 4) (h0 : 64 * (k : Int) < n) (h1 : n < 64 * (k : Int) + 64) : IntKind.u64.wrap (IntKind.u64.wrap (2 ^ (n - 64 * (k : Int)).toNat) - 1) = wrd (full n) k := by
  have hp : (2 : Nat) ^ (n - 64 * (k : Int)).toNat < 2 ^ 64 := Nat.pow_lt_pow_right (by decide) (by omega)
  have hpos : 0 < (2 : Nat) ^ (n - 64 * (k : Int)).toNat := Nat.pow_pos (by decide)
  have e : (full n).extractLsb' (64 * k) 64 = BitVec.ofNat 64 (2 ^ (n - 64 * (k : Int)).toNat - 1) := by
    apply BitVec.eq_of_getLsbD_eq
    intro i hi
    rw [BitVec.getLsbD_extractLsb', getLsbD_full, BitVec.getLsbD_ofNat, Nat.testBit_two_pow_sub_one]
    apply Bool.eq_iff_iff.2
    simp
    omega
  unfold wrd
  rw [e, BitVec.toNat_ofNat, IntKind.wrap_u64, IntKind.wrap_u64]
  have hp2 : ((2 : Int) ^ (n - 64 * (k : Int)).toNat) = ((2 ^ (n - 64 * (k : Int)).toNat : Nat) : Int) := by simp
  rw [hp2]
  generalize (2 ^ (n - 64 * (k : Int)).toNat : Nat) = q at *
  omega
theorem full_least {n : Int} (h : n ≤ 0) : full n = full 0 := by
  apply BitVec.eq_of_getLsbD_eq
  intro i hi
  rw [getLsbD_full, getLsbD_full]
  apply Bool.eq_iff_iff.2
  simp
  omega
theorem full_most {n : Int} (h : 256 ≤ n) : full n = full 256 := by
  apply BitVec.eq_of_getLsbD_eq
  intro i hi
  rw [getLsbD_full, getLsbD_full]
  apply Bool.eq_iff_iff.2
  simp
  omega
end P
end Go.Proofs.YtghdjkpndhcplaaDoor
end
section
namespace Go.Proofs.YtghdjkpndhcplaaDoor
namespace P

/-- How many of the last f bits of x are set. -/
def pop : Nat → Nat → Nat
  | 0, _ => 0
  | f + 1, x => x % 2 + pop f (x / 2)

theorem pop_le : ∀ f x, pop f x ≤ f
  | 0, _ => Nat.le_refl _
  | f + 1, x => by have := pop_le f (x / 2); unfold pop; omega

theorem pop_add8 (f x : Nat) : pop (f + 8) x = pop 8 (x % 256) + pop f (x / 256) := by
  have e : x / 256 = x / 2 / 2 / 2 / 2 / 2 / 2 / 2 / 2 := by omega
  rw [e]
  simp only [pop]
  omega

theorem and_split (a y c z : Nat) (ha : a < 256) (hc : c < 256) : (a + 256 * y) &&& (c + 256 * z) = (a &&& c) + 256 * (y &&& z) := by
  have hac : a &&& c < 2 ^ 8 := Nat.and_lt_two_pow _ (by omega)
  apply Nat.eq_of_testBit_eq
  intro i
  have e1 : a + 256 * y = 2 ^ 8 * y + a := by omega
  have e2 : c + 256 * z = 2 ^ 8 * z + c := by omega
  have e3 : (a &&& c) + 256 * (y &&& z) = 2 ^ 8 * (y &&& z) + (a &&& c) := by omega
  rw [e3, Nat.testBit_two_pow_mul_add _ hac, Nat.testBit_and, e1, e2, Nat.testBit_two_pow_mul_add _ (by omega), Nat.testBit_two_pow_mul_add _ (by omega)]
  split
  · rw [Nat.testBit_and]
  · rw [Nat.testBit_and]

/-- n bytes c. -/
def rep (c : Nat) : Nat → Nat
  | 0 => 0
  | n + 1 => c + 256 * rep c n

def s1 (n x : Nat) : Nat := (x / 2 &&& rep 85 n) + (x &&& rep 85 n)
def s2 (n x : Nat) : Nat := (x / 4 &&& rep 51 n) + (x &&& rep 51 n)
def s3 (n x : Nat) : Nat := (x / 16 + x) &&& rep 15 n
def t1 (a : Nat) : Nat := (a / 2 &&& 85) + (a &&& 85)
def t2 (a : Nat) : Nat := (a / 4 &&& 51) + (a &&& 51)
def t3 (a : Nat) : Nat := (a / 16 + a) % 16

theorem byte_half : ∀ a, a < 256 → ∀ c, c < 2 → (a / 2 + 128 * c) &&& 85 = a / 2 &&& 85 := by decide +kernel
theorem byte_quarter : ∀ a, a < 256 → ∀ c, c < 4 → (a / 4 + 64 * c) &&& 51 = a / 4 &&& 51 := by decide +kernel
theorem t1_le : ∀ a, a < 256 → t1 a < 256 := by decide +kernel
theorem t2_le : ∀ a, a < 256 → t2 a < 256 := by decide +kernel
theorem t21 : ∀ a, a < 256 → t2 (t1 a) ≤ 68 ∧ t2 (t1 a) % 16 ≤ 4 ∧ t3 (t2 (t1 a)) = pop 8 a := by decide +kernel

theorem s1_step (n a y : Nat) (ha : a < 256) : s1 (n + 1) (a + 256 * y) = t1 a + 256 * s1 n y := by
  unfold s1 t1
  have e : (a + 256 * y) / 2 = (a / 2 + 128 * (y % 2)) + 256 * (y / 2) := by omega
  have h := byte_half a ha (y % 2) (by omega)
  simp only [rep]
  rw [e, and_split _ _ _ _ (by omega) (by decide), and_split _ _ _ _ ha (by decide), h]
  omega
theorem s2_step (n a y : Nat) (ha : a < 256) : s2 (n + 1) (a + 256 * y) = t2 a + 256 * s2 n y := by
  unfold s2 t2
  have e : (a + 256 * y) / 4 = (a / 4 + 64 * (y % 4)) + 256 * (y / 4) := by omega
  have h := byte_quarter a ha (y % 4) (by omega)
  simp only [rep]
  rw [e, and_split _ _ _ _ (by omega) (by decide), and_split _ _ _ _ ha (by decide), h]
  omega
theorem s3_step (n a y : Nat) (ha : a ≤ 68) (hy : y % 16 ≤ 4) : s3 (n + 1) (a + 256 * y) = t3 a + 256 * s3 n y := by
  unfold s3 t3
  have e : (a + 256 * y) / 16 + (a + 256 * y) = (a / 16 + a + 16 * (y % 16)) + 256 * (y / 16 + y) := by omega
  simp only [rep]
  rw [e, and_split _ _ _ _ (by omega) (by decide)]
  have h15 : (a / 16 + a + 16 * (y % 16)) &&& 15 = (a / 16 + a + 16 * (y % 16)) % 16 := Nat.and_two_pow_sub_one_eq_mod _ 4
  rw [h15]
  omega

/-- The numbers of bits, byte by byte. -/
def byB : Nat → Nat → Nat
  | 0, _ => 0
  | n + 1, x => pop 8 (x % 256) + 256 * byB n (x / 256)

theorem s21_low (n x : Nat) : s2 n (s1 n x) % 16 ≤ 4 := by
  cases n with
  | zero => simp [s2, rep]
  | succ n =>
    have e : x = x % 256 + 256 * (x / 256) := by omega
    have h := t21 (x % 256) (by omega)
    rw [e, s1_step _ _ _ (by omega), s2_step _ _ _ (t1_le _ (by omega))]
    omega

theorem s321 : ∀ n x, s3 n (s2 n (s1 n x)) = byB n x
  | 0, x => by simp [s3, rep, byB]
  | n + 1, x => by
    have e : x = x % 256 + 256 * (x / 256) := by omega
    have h := t21 (x % 256) (by omega)
    have l := s21_low n (x / 256)
    have ih := s321 n (x / 256)
    rw [show s1 (n + 1) x = s1 (n + 1) (x % 256 + 256 * (x / 256)) by rw [← e], s1_step _ _ _ (by omega), s2_step _ _ _ (t1_le _ (by omega)), s3_step _ _ _ h.1 l, ih, h.2.2]
    rfl

theorem m1 : rep 85 8 = 6148914691236517205 := by decide +kernel
theorem m2 : rep 51 8 = 3689348814741910323 := by decide +kernel
theorem m3 : rep 15 8 = 1085102592571150095 := by decide +kernel

theorem and_le_right' (a b : Nat) : a &&& b ≤ b := Nat.and_le_right

theorem sum8 (p0 p1 p2 p3 p4 p5 p6 p7 : Nat) (h0 : p0 ≤ 8) (a : Nat)
    (ha : a = p0 + 256 * (p1 + 256 * (p2 + 256 * (p3 + 256 * (p4 + 256 * (p5 + 256 * (p6 + 256 * p7))))))) :
    a + a / 256 = (p0 + p1) + 256 * ((p1 + p2) + 256 * ((p2 + p3) + 256 * ((p3 + p4) + 256 * ((p4 + p5) + 256 * ((p5 + p6) + 256 * ((p6 + p7) + 256 * p7)))))) := by
  have e : a / 256 = p1 + 256 * (p2 + 256 * (p3 + 256 * (p4 + 256 * (p5 + 256 * (p6 + 256 * p7))))) := by omega
  rw [e, ha]
  omega
theorem sum16 (p0 p1 p2 p3 p4 p5 p6 p7 : Nat) (h0 : p0 ≤ 16) (h1 : p1 ≤ 16) (a : Nat)
    (ha : a = p0 + 256 * (p1 + 256 * (p2 + 256 * (p3 + 256 * (p4 + 256 * (p5 + 256 * (p6 + 256 * p7))))))) :
    a + a / 65536 = (p0 + p2) + 256 * ((p1 + p3) + 256 * ((p2 + p4) + 256 * ((p3 + p5) + 256 * ((p4 + p6) + 256 * ((p5 + p7) + 256 * (p6 + 256 * p7)))))) := by
  have e : a / 65536 = p2 + 256 * (p3 + 256 * (p4 + 256 * (p5 + 256 * (p6 + 256 * p7)))) := by omega
  rw [e, ha]
  omega
theorem sum32 (p0 p1 p2 p3 p4 p5 p6 p7 : Nat) (h0 : p0 ≤ 32) (h1 : p1 ≤ 32) (h2 : p2 ≤ 32) (h3 : p3 ≤ 32) (h4 : p4 ≤ 32) (h5 : p5 ≤ 32) (h6 : p6 ≤ 32) (h7 : p7 ≤ 32) (a : Nat)
    (ha : a = p0 + 256 * (p1 + 256 * (p2 + 256 * (p3 + 256 * (p4 + 256 * (p5 + 256 * (p6 + 256 * p7))))))) :
    a + a / 4294967296 < 9223372036854775808 ∧ (a + a / 4294967296) % 128 = p0 + p4 := by
  have e : a / 4294967296 = p4 + 256 * (p5 + 256 * (p6 + 256 * p7)) := by omega
  rw [e, ha]
  omega
theorem sums (p0 p1 p2 p3 p4 p5 p6 p7 a : Nat) (h0 : p0 ≤ 8) (h1 : p1 ≤ 8) (h2 : p2 ≤ 8) (h3 : p3 ≤ 8) (h4 : p4 ≤ 8) (h5 : p5 ≤ 8) (h6 : p6 ≤ 8) (h7 : p7 ≤ 8)
    (ha : a = p0 + 256 * (p1 + 256 * (p2 + 256 * (p3 + 256 * (p4 + 256 * (p5 + 256 * (p6 + 256 * p7))))))) :
    ∃ b c d, b = a + a / 256 ∧ c = b + b / 65536 ∧ d = c + c / 4294967296 ∧ d < 9223372036854775808 ∧ d % 128 = p0 + (p1 + (p2 + (p3 + (p4 + (p5 + (p6 + p7)))))) := by
  have g : p0 + p1 + (p2 + p3) + (p4 + p5 + (p6 + p7)) = p0 + (p1 + (p2 + (p3 + (p4 + (p5 + (p6 + p7)))))) := by omega
  have f1 : p0 + p1 ≤ 16 := Nat.add_le_add h0 h1
  have f2 : p1 + p2 ≤ 16 := Nat.add_le_add h1 h2
  have f3 : p2 + p3 ≤ 16 := Nat.add_le_add h2 h3
  have f4 : p3 + p4 ≤ 16 := Nat.add_le_add h3 h4
  have f5 : p4 + p5 ≤ 16 := Nat.add_le_add h4 h5
  have f6 : p5 + p6 ≤ 16 := Nat.add_le_add h5 h6
  have f7 : p6 + p7 ≤ 16 := Nat.add_le_add h6 h7
  have f8 : p7 ≤ 16 := Nat.le_trans h7 (by decide)
  have f9 : p6 + p7 ≤ 32 := Nat.le_trans f7 (by decide)
  have f10 : p7 ≤ 32 := Nat.le_trans h7 (by decide)
  have e1 := sum8 p0 p1 p2 p3 p4 p5 p6 p7 h0 a ha
  have e2 := sum16 _ _ _ _ _ _ _ _ f1 f2 _ e1
  have e3 := sum32 _ _ _ _ _ _ _ _ (Nat.add_le_add f1 f3) (Nat.add_le_add f2 f4) (Nat.add_le_add f3 f5) (Nat.add_le_add f4 f6) (Nat.add_le_add f5 f7) (Nat.add_le_add f6 f8) f9 f10 _ e2
  exact ⟨_, _, _, rfl, rfl, rfl, e3.1, e3.2.trans g⟩

theorem byB_lt (x : Nat) : byB 8 x < 1000000000000000000 := by
  simp only [byB]
  have h := pop_le 8
  have h0 := h (x % 256)
  have h1 := h (x / 256 % 256)
  have h2 := h (x / 256 / 256 % 256)
  have h3 := h (x / 256 / 256 / 256 % 256)
  have h4 := h (x / 256 / 256 / 256 / 256 % 256)
  have h5 := h (x / 256 / 256 / 256 / 256 / 256 % 256)
  have h6 := h (x / 256 / 256 / 256 / 256 / 256 / 256 % 256)
  have h7 := h (x / 256 / 256 / 256 / 256 / 256 / 256 / 256 % 256)
  omega

theorem pop64 (x : Nat) : pop 64 x = pop 8 (x % 256) + (pop 8 (x / 256 % 256) + (pop 8 (x / 256 / 256 % 256) + (pop 8 (x / 256 / 256 / 256 % 256) + (pop 8 (x / 256 / 256 / 256 / 256 % 256) + (pop 8 (x / 256 / 256 / 256 / 256 / 256 % 256) + (pop 8 (x / 256 / 256 / 256 / 256 / 256 / 256 % 256) + pop 8 (x / 256 / 256 / 256 / 256 / 256 / 256 / 256 % 256))))))) := by
  have e1 := pop_add8 56 x
  have e2 := pop_add8 48 (x / 256)
  have e3 := pop_add8 40 (x / 256 / 256)
  have e4 := pop_add8 32 (x / 256 / 256 / 256)
  have e5 := pop_add8 24 (x / 256 / 256 / 256 / 256)
  have e6 := pop_add8 16 (x / 256 / 256 / 256 / 256 / 256)
  have e7 := pop_add8 8 (x / 256 / 256 / 256 / 256 / 256 / 256)
  have e8 := pop_add8 0 (x / 256 / 256 / 256 / 256 / 256 / 256 / 256)
  simp only [Nat.reduceAdd] at e1 e2 e3 e4 e5 e6 e7 e8
  have e9 : pop 0 (x / 256 / 256 / 256 / 256 / 256 / 256 / 256 / 256) = 0 := rfl
  omega

theorem byB8 (x : Nat) : byB 8 x = pop 8 (x % 256) + 256 * (pop 8 (x / 256 % 256) + 256 * (pop 8 (x / 256 / 256 % 256) + 256 * (pop 8 (x / 256 / 256 / 256 % 256) + 256 * (pop 8 (x / 256 / 256 / 256 / 256 % 256) + 256 * (pop 8 (x / 256 / 256 / 256 / 256 / 256 % 256) + 256 * (pop 8 (x / 256 / 256 / 256 / 256 / 256 / 256 % 256) + 256 * pop 8 (x / 256 / 256 / 256 / 256 / 256 / 256 / 256 % 256))))))) := by
  simp only [byB, Nat.mul_zero, Nat.add_zero]

theorem step1 (x : Nat) (hx : x < 18446744073709551616) : IntKind.u64.wrap (bits .and .u64 ((x : Int) / 2) 6148914691236517205 + bits .and .u64 (x : Int) 6148914691236517205) = ((s1 8 x : Nat) : Int) ∧ s1 8 x < 18446744073709551616 := by
  have h1 := bits_and_u64_nat (x / 2) 6148914691236517205 (by omega) (by omega)
  have h2 := bits_and_u64_nat x 6148914691236517205 hx (by omega)
  have b1 := and_le_right' (x / 2) 6148914691236517205
  have b2 := and_le_right' x 6148914691236517205
  have e : s1 8 x = (x / 2 &&& 6148914691236517205) + (x &&& 6148914691236517205) := by unfold s1; rw [m1]
  rw [e, show ((x : Int) / 2) = ((x / 2 : Nat) : Int) by omega, IntKind.wrap_u64]
  simp only [Int.cast_ofNat_Int] at h1 h2
  rw [h1, h2]
  omega

theorem step2 (y : Nat) (hy : y < 18446744073709551616) : IntKind.u64.wrap (bits .and .u64 ((y : Int) / 4) 3689348814741910323 + bits .and .u64 (y : Int) 3689348814741910323) = ((s2 8 y : Nat) : Int) ∧ s2 8 y ≤ 7378697629483820646 := by
  have h1 := bits_and_u64_nat (y / 4) 3689348814741910323 (by omega) (by omega)
  have h2 := bits_and_u64_nat y 3689348814741910323 hy (by omega)
  have b1 := and_le_right' (y / 4) 3689348814741910323
  have b2 := and_le_right' y 3689348814741910323
  have e : s2 8 y = (y / 4 &&& 3689348814741910323) + (y &&& 3689348814741910323) := by unfold s2; rw [m2]
  rw [e, show ((y : Int) / 4) = ((y / 4 : Nat) : Int) by omega, IntKind.wrap_u64]
  simp only [Int.cast_ofNat_Int] at h1 h2
  rw [h1, h2]
  omega

theorem step3 (y : Nat) (hy : y ≤ 7378697629483820646) : bits .and .u64 (IntKind.u64.wrap ((y : Int) / 16 + (y : Int))) 1085102592571150095 = ((s3 8 y : Nat) : Int) := by
  have h1 := bits_and_u64_nat (y / 16 + y) 1085102592571150095 (by omega) (by omega)
  have e : s3 8 y = (y / 16 + y) &&& 1085102592571150095 := by unfold s3; rw [m3]
  rw [IntKind.wrap_u64, show ((y : Int) / 16 + (y : Int)) % 18446744073709551616 = ((y / 16 + y : Nat) : Int) by omega, e]
  simp only [Int.cast_ofNat_Int] at h1
  exact h1

/-- THE CHAIN OF THE LIBRARY's TEXT GIVES THE NUMBER OF BITS. -/
theorem chain (x : Nat) (hx : x < 18446744073709551616) : ∃ a1 a2 a3 a4 a5 a6 : Int,
    IntKind.u64.wrap (bits .and .u64 ((x : Int) / 2) 6148914691236517205 + bits .and .u64 (x : Int) 6148914691236517205) = a1 ∧
    IntKind.u64.wrap (bits .and .u64 (a1 / 4) 3689348814741910323 + bits .and .u64 a1 3689348814741910323) = a2 ∧
    bits .and .u64 (IntKind.u64.wrap (a2 / 16 + a2)) 1085102592571150095 = a3 ∧
    IntKind.u64.wrap (a3 + a3 / 256) = a4 ∧ IntKind.u64.wrap (a4 + a4 / 65536) = a5 ∧ IntKind.u64.wrap (a5 + a5 / 4294967296) = a6 ∧
    0 ≤ a6 ∧ a6 < 9223372036854775808 ∧ a6 % 128 = ((pop 64 x : Nat) : Int) := by
  obtain ⟨a1, b1⟩ := step1 x hx
  obtain ⟨a2, b2⟩ := step2 _ b1
  have a3 := step3 _ b2
  have e3 := s321 8 x
  rw [e3] at a3
  have hp := byB8 x
  have b3 := byB_lt x
  obtain ⟨b, c, d, hb, hc, hd, hd1, hd2⟩ := sums _ _ _ _ _ _ _ _ _ (pop_le 8 _) (pop_le 8 _) (pop_le 8 _) (pop_le 8 _) (pop_le 8 _) (pop_le 8 _) (pop_le 8 _) (pop_le 8 _) hp
  rw [← pop64] at hd2
  clear hp e3
  generalize byB 8 x = a at *
  refine ⟨_, _, _, (b : Int), (c : Int), (d : Int), a1, a2, a3, ?_, ?_, ?_, ?_, ?_, ?_⟩
  · rw [IntKind.wrap_u64]; omega
  · rw [IntKind.wrap_u64]; omega
  · rw [IntKind.wrap_u64]; omega
  · omega
  · omega
  · omega

theorem and127 (a : Int) (h0 : 0 ≤ a) (h1 : a < 9223372036854775808) : bits .and .i64 a 127 = a % 128 :=
  bits_mask .i64 63 (by decide) (fun n _ _ => by rw [IntKind.wrap_i64]; omega) 7 (by decide) a h0 h1
end P
end Go.Proofs.YtghdjkpndhcplaaDoor
end
section
namespace Go.Proofs.YtghdjkpndhcplaaDoor
namespace P

/-- The bits of a word that are set. -/
def bl (x : Nat) : List Nat := (List.range 64).filter (fun j => x.testBit j)
/-- The numbers of a set. -/
def lst (s : BitVec 256) : List Nat := (List.range 256).filter (fun j => s.getLsbD j)
/-- The numbers in word i. -/
def lw (s : BitVec 256) (i : Nat) : List Nat := (bl (s.extractLsb' (64 * i) 64).toNat).map (fun j => 64 * i + j)
/-- The numbers in the first k words. -/
def pre (s : BitVec 256) : Nat → List Nat
  | 0 => []
  | k + 1 => pre s k ++ lw s k

theorem bl_zero : bl 0 = [] := by unfold bl; simp

theorem first_one (p : Nat → Bool) (c : Nat) (hc : p c = true) (hlow : ∀ j, j < c → p j = false) : ∀ n, c < n → (List.range n).filter p = c :: (List.range n).filter (fun j => p j && j != c)
  | 0, h => by omega
  | n + 1, h => by
    rw [List.range_succ, List.filter_append, List.filter_append]
    by_cases e : c = n
    · subst e
      have h1 : (List.range c).filter p = [] := by
        rw [List.filter_eq_nil_iff]
        intro j hj
        rw [hlow j (by simpa using hj)]
        simp
      have h2 : (List.range c).filter (fun j => p j && j != c) = [] := by
        rw [List.filter_eq_nil_iff]
        intro j hj
        rw [hlow j (by simpa using hj)]
        simp
      rw [h1, h2]
      simp [hc]
    · rw [first_one p c hc hlow n (by omega)]
      have h3 : (n != c) = true := by simp; omega
      have h4 : [n].filter p = [n].filter (fun j => p j && j != c) := by
        simp only [List.filter_cons, List.filter_nil, h3, Bool.and_true]
      rw [h4]
      rfl

theorem ctz_form (x : Nat) (h0 : x ≠ 0) (h : x < 2 ^ 64) : ∃ m, x = 2 ^ Lib.ctz 64 x * (2 * m + 1) ∧ Lib.ctz 64 x < 64 := by
  obtain ⟨m, hm, hk⟩ := Lib.ctzFrom_spec 64 x (by omega) h
  have e : Lib.ctz 64 x = Lib.ctzFrom 64 x := by simp [Lib.ctz, h0]
  rw [e]
  exact ⟨m, hm, hk⟩

theorem testBit_odd (c m j : Nat) : (2 ^ c * (2 * m + 1)).testBit j = (if j < c then false else if j = c then true else m.testBit (j - c - 1)) := by
  have := Nat.testBit_two_pow_mul_add (2 * m + 1) (b := 0) (i := c) (Nat.pow_pos (by decide)) j
  rw [Nat.add_zero] at this
  rw [this]
  by_cases h : j < c
  · simp [h]
  · rw [if_neg h, if_neg h]
    by_cases e : j = c
    · subst e
      rw [if_pos rfl, Nat.sub_self]
      simp [Nat.testBit_zero]
    · rw [if_neg e]
      obtain ⟨d, rfl⟩ : ∃ d, j = c + (d + 1) := ⟨j - c - 1, by omega⟩
      rw [show c + (d + 1) - c = d + 1 by omega, show d + 1 - 1 = d by omega, Nat.testBit_succ]
      congr 1
      omega

theorem testBit_odd_pred (c m j : Nat) : (2 ^ c * (2 * m + 1) - 1).testBit j = (if j < c then true else if j = c then false else m.testBit (j - c - 1)) := by
  have hp : 0 < 2 ^ c := Nat.pow_pos (by decide)
  have e : 2 ^ c * (2 * m + 1) - 1 = 2 ^ c * (2 * m) + (2 ^ c - 1) := by
    rw [Nat.mul_add, Nat.mul_one]
    omega
  rw [e, Nat.testBit_two_pow_mul_add _ (by omega)]
  by_cases h : j < c
  · rw [if_pos h, if_pos h, Nat.testBit_two_pow_sub_one]
    simp [h]
  · rw [if_neg h, if_neg h]
    by_cases e : j = c
    · subst e
      rw [if_pos rfl, Nat.sub_self]
      simp [Nat.testBit_zero]
    · rw [if_neg e]
      obtain ⟨d, rfl⟩ : ∃ d, j = c + (d + 1) := ⟨j - c - 1, by omega⟩
      rw [show c + (d + 1) - c = d + 1 by omega, show d + 1 - 1 = d by omega, Nat.testBit_succ]
      congr 1
      omega

theorem bl_step (x : Nat) (h0 : x ≠ 0) (h : x < 2 ^ 64) : bl x = Lib.ctz 64 x :: bl (x &&& (x - 1)) := by
  obtain ⟨m, hm, hc⟩ := ctz_form x h0 h
  have hb : ∀ j, x.testBit j = (if j < Lib.ctz 64 x then false else if j = Lib.ctz 64 x then true else m.testBit (j - Lib.ctz 64 x - 1)) := by
    generalize Lib.ctz 64 x = c at *
    subst hm
    exact testBit_odd c m
  have hb' : ∀ j, (x - 1).testBit j = (if j < Lib.ctz 64 x then true else if j = Lib.ctz 64 x then false else m.testBit (j - Lib.ctz 64 x - 1)) := by
    generalize Lib.ctz 64 x = c at *
    subst hm
    exact testBit_odd_pred c m
  unfold bl
  rw [first_one (fun j => x.testBit j) (Lib.ctz 64 x) (by rw [hb]; simp) (fun j hj => by rw [hb]; simp [hj]) 64 hc]
  congr 1
  apply List.filter_congr
  intro j _
  rw [Nat.testBit_and, hb, hb']
  by_cases h1 : j < Lib.ctz 64 x
  · simp [h1]
  · by_cases h2 : j = Lib.ctz 64 x
    · simp [h2]
    · simp [h1, h2]

theorem bl_length (x : Nat) : (bl x).length ≤ 64 := by
  have := List.length_filter_le (fun j => x.testBit j) (List.range 64)
  unfold bl
  simpa using this

theorem and_pred_lt (x : Nat) (h0 : x ≠ 0) : x &&& (x - 1) < x := by
  have : x &&& (x - 1) ≤ x - 1 := Nat.and_le_right
  omega

theorem lst_pre (s : BitVec 256) : pre s 4 = lst s := by
  have hw : ∀ i, i < 4 → lw s i = ((List.range 64).map (fun j => 64 * i + j)).filter (fun j => s.getLsbD j) := by
    intro i hi
    unfold lw bl
    rw [List.filter_map]
    congr 1
    apply List.filter_congr
    intro j hj
    have hj' : j < 64 := by simpa using hj
    show (s.extractLsb' (64 * i) 64).getLsbD j = _
    rw [BitVec.getLsbD_extractLsb']
    simp [hj']
  have r : List.range 256 = (((List.range 64).map (fun j => 64 * 0 + j) ++ (List.range 64).map (fun j => 64 * 1 + j)) ++ (List.range 64).map (fun j => 64 * 2 + j)) ++ (List.range 64).map (fun j => 64 * 3 + j) := by decide +kernel
  unfold lst
  rw [r]
  simp only [List.filter_append]
  rw [← hw 0 (by decide), ← hw 1 (by decide), ← hw 2 (by decide), ← hw 3 (by decide)]
  simp [pre]

theorem lst_length (s : BitVec 256) : (lst s).length ≤ 256 := by
  have := List.length_filter_le (fun j => s.getLsbD j) (List.range 256)
  unfold lst
  simpa using this
theorem pre_length (s : BitVec 256) (k : Nat) (hk : k ≤ 4) : (pre s k).length ≤ 64 * k := by
  have hl : ∀ i, (lw s i).length ≤ 64 := fun i => by unfold lw; rw [List.length_map]; exact bl_length _
  induction k with
  | zero => simp [pre]
  | succ k ih => have := ih (by omega); have := hl k; simp only [pre, List.length_append]; omega
end P
end Go.Proofs.YtghdjkpndhcplaaDoor
end
section
namespace Go.Proofs.YtghdjkpndhcplaaDoor
namespace P
/-- The positions of a set that a game has, rising. -/
def G.old (g : G) (s : BitVec 256) : List Nat := lst (s &&& full (g.owner.length : Int))
/-- The moves of a position that stay in the set, by the new numbers. -/
def renum (old : List Nat) (s : BitVec 256) (l : List Int) : List Int := (l.filter (has s)).map fun m => ((old.idxOf m.toNat : Nat) : Int)
/-- The game on the first k of some positions. -/
def G.partTo (g : G) (s : BitVec 256) (old : List Nat) (k : Nat) : G :=
  ⟨(old.take k).map fun i => g.owner.getD i 0, (old.take k).map fun i => g.prio.getD i 0, (old.take k).map fun i => renum old s (g.moves.getD i [])⟩
def G.part (g : G) (s : BitVec 256) : G := g.partTo s (g.old s) (g.old s).length
/-- Is there such a game? -/
def G.has (g : G) (s : BitVec 256) : Bool := g.ok && (!(g.old s).isEmpty && (g.old s).all fun i => !((g.moves.getD i []).filter (P.has s)).isEmpty)
theorem G.partTo_zero (g : G) (s : BitVec 256) (old : List Nat) : g.partTo s old 0 = .none := rfl
theorem G.partTo_succ (g : G) (s : BitVec 256) (old : List Nat) (k : Nat) (h : k < old.length) :
    g.partTo s old (k + 1) = ⟨(g.partTo s old k).owner ++ [g.owner.getD old[k] 0], (g.partTo s old k).prio ++ [g.prio.getD old[k] 0], (g.partTo s old k).moves ++ [renum old s (g.moves.getD old[k] [])]⟩ := by
  unfold G.partTo
  rw [List.take_succ_eq_append_getElem h]
  simp only [List.map_append, List.map_cons, List.map_nil]
theorem G.partTo_len (g : G) (s : BitVec 256) (old : List Nat) (k : Nat) (h : k ≤ old.length) : (g.partTo s old k).owner.length = k ∧ (g.partTo s old k).prio.length = k ∧ (g.partTo s old k).moves.length = k := by
  unfold G.partTo
  simp
  omega
theorem old_lt (g : G) (s : BitVec 256) : ∀ i ∈ g.old s, i < g.owner.length ∧ i < 256 := by
  intro i hi
  unfold G.old lst at hi
  simp only [List.mem_filter, List.mem_range, BitVec.getLsbD_and, Bool.and_eq_true, getLsbD_full, decide_eq_true_eq] at hi
  omega
theorem old_has (g : G) (s : BitVec 256) : ∀ i ∈ g.old s, s.getLsbD i = true := by
  intro i hi
  unfold G.old lst at hi
  simp only [List.mem_filter, BitVec.getLsbD_and, Bool.and_eq_true] at hi
  exact hi.2.1
theorem mem_old (g : G) (s : BitVec 256) (i : Nat) (h : i < g.owner.length) (h2 : i < 256) (hs : s.getLsbD i = true) : i ∈ g.old s := by
  unfold G.old lst
  simp only [List.mem_filter, List.mem_range, BitVec.getLsbD_and, Bool.and_eq_true, getLsbD_full, decide_eq_true_eq]
  exact ⟨h2, hs, h2, by omega⟩
theorem old_nodup (g : G) (s : BitVec 256) : (g.old s).Nodup := by
  unfold G.old lst
  exact List.Pairwise.filter _ List.nodup_range
theorem renum_nil (old : List Nat) (s : BitVec 256) : renum old s [] = [] := rfl
theorem renum_snoc (old : List Nat) (s : BitVec 256) (l : List Int) (m : Int) : renum old s (l ++ [m]) = if has s m then renum old s l ++ [((old.idxOf m.toNat : Nat) : Int)] else renum old s l := by
  unfold renum
  rw [List.filter_append, List.map_append]
  by_cases h : has s m = true
  · rw [if_pos h]; simp [h]
  · rw [if_neg h]; simp [h]
theorem renum_length (old : List Nat) (s : BitVec 256) (l : List Int) : (renum old s l).length ≤ l.length := by
  unfold renum
  rw [List.length_map]
  exact List.length_filter_le _ _
/-- Numbers that rise from 0 on below n are at most n. -/
theorem rise_len_any {n : Int} : ∀ {l : List Int} {last : Int}, rise n last l = true → -1 ≤ last → last < n → (l.length : Int) + last + 1 ≤ n
  | [], last, _, _, h => by simp; omega
  | x :: l, last, h, h1, h2 => by
    unfold rise at h
    simp only [Bool.and_eq_true, decide_eq_true_eq] at h
    have := rise_len_any h.2.2 (by omega) h.2.1
    simp only [List.length_cons]
    omega
theorem rise_len {m : Nat} {l : List Int} (h : rise (m : Int) (-1) l = true) (hm : m ≤ 200) : l.length ≤ 200 := by
  have := rise_len_any h (by omega) (by omega)
  omega
theorem renum_empty {old : List Nat} {s : BitVec 256} {l : List Int} (h : (renum old s l).length = 0) : l.filter (has s) = [] := by
  unfold renum at h
  rw [List.length_map] at h
  exact List.eq_nil_of_length_eq_zero h
theorem has_false {g : G} {s : BitVec 256} {i : Nat} (hi : i ∈ g.old s) (h : (g.moves.getD i []).filter (has s) = []) : g.has s = false := by
  unfold G.has
  rw [Bool.and_eq_false_iff]
  right
  rw [Bool.and_eq_false_iff]
  right
  rw [List.all_eq_false]
  exact ⟨i, hi, by rw [h]; simp⟩
theorem has_true {g : G} {s : BitVec 256} (hok : g.ok = true) (h0 : 0 < (g.old s).length) (h : ∀ i ∈ g.old s, (g.moves.getD i []).filter (has s) ≠ []) : g.has s = true := by
  unfold G.has
  rw [hok, Bool.true_and, Bool.and_eq_true]
  refine ⟨by cases hl : g.old s with | nil => rw [hl] at h0; simp at h0 | cons _ _ => rfl, List.all_eq_true.2 fun i hi => ?_⟩
  cases hf : (g.moves.getD i []).filter (has s) with
  | nil => exact absurd hf (h i hi)
  | cons _ _ => rfl
theorem idx_nodup {l : List Nat} (h : l.Nodup) (k : Nat) (hk : k < l.length) : l.idxOf l[k] = k := h.idxOf_getElem k hk
end P
end Go.Proofs.YtghdjkpndhcplaaDoor
end
