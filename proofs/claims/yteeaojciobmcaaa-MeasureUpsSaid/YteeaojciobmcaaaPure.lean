/- Plain facts on sets of 256 numbers as four words of 64 bits: what or, and, and-not do to the words, and that a set is its words. No program is named here. -/
import Derived.Laws.Bits64b
import Derived.Laws.BitsLemmas
namespace Go.Proofs.Yteeaojciobmcaaa
namespace P

/-- The word number i of a set. -/
def wrd (s : BitVec 256) (i : Nat) : Int := ((s.extractLsb' (64 * i) 64).toNat : Int)

theorem wrd_bd (s : BitVec 256) (i : Nat) : 0 ≤ wrd s i ∧ wrd s i < 18446744073709551616 := by
  unfold wrd
  have := (s.extractLsb' (64 * i) 64).isLt
  omega

theorem wrd_or (s t : BitVec 256) (i : Nat) : bits .or .u64 (wrd s i) (wrd t i) = wrd (s ||| t) i := by
  unfold wrd
  have h1 := (s.extractLsb' (64 * i) 64).isLt
  have h2 := (t.extractLsb' (64 * i) 64).isLt
  rw [bits_or_u64_nat _ _ (by omega) (by omega), ← BitVec.toNat_or]
  congr 2
  ext j hj
  simp [BitVec.getElem_extractLsb']

theorem wrd_and (s t : BitVec 256) (i : Nat) : bits .and .u64 (wrd s i) (wrd t i) = wrd (s &&& t) i := by
  unfold wrd
  have h1 := (s.extractLsb' (64 * i) 64).isLt
  have h2 := (t.extractLsb' (64 * i) 64).isLt
  rw [bits_and_u64_nat _ _ (by omega) (by omega), ← BitVec.toNat_and]
  congr 2
  ext j hj
  simp [BitVec.getElem_extractLsb']

theorem bits_andNot_u64 (x y : BitVec 64) : bits .andNot .u64 (x.toNat : Int) (y.toNat : Int) = ((x &&& ~~~y).toNat : Int) := by
  have h1 : BitVec.ofInt 64 (x.toNat : Int) = x := by rw [BitVec.ofInt_natCast]; simp
  have h2 : BitVec.ofInt 64 (y.toNat : Int) = y := by rw [BitVec.ofInt_natCast]; simp
  have h3 := (x &&& ~~~y).isLt
  show IntKind.u64.wrap ((BitVec.ofInt 64 (x.toNat : Int) &&& ~~~ BitVec.ofInt 64 (y.toNat : Int)).toNat : Int) = _
  rw [h1, h2, IntKind.wrap_u64]
  omega

theorem wrd_minus (s t : BitVec 256) (i : Nat) (hi : i < 4) : bits .andNot .u64 (wrd s i) (wrd t i) = wrd (s &&& ~~~t) i := by
  unfold wrd
  rw [bits_andNot_u64]
  congr 2
  ext j hj
  simp [BitVec.getElem_extractLsb']
  have : 64 * i + j < 256 := by omega
  simp [this]

theorem wrd_ext {s t : BitVec 256} (h : ∀ i, i < 4 → wrd s i = wrd t i) : s = t := by
  apply BitVec.eq_of_getLsbD_eq
  intro j hj
  have h1 := h (j / 64) (by omega)
  unfold wrd at h1
  have h2 : s.extractLsb' (64 * (j / 64)) 64 = t.extractLsb' (64 * (j / 64)) 64 := by
    apply BitVec.eq_of_toNat_eq
    exact Int.ofNat_inj.1 h1
  have h3 := congrArg (fun x => x.getLsbD (j % 64)) h2
  simp only [BitVec.getLsbD_extractLsb'] at h3
  have e : 64 * (j / 64) + j % 64 = j := by omega
  have e2 : j % 64 < 64 := by omega
  simpa [e, e2] using h3

theorem wrd_eq4 {s t : BitVec 256} (h0 : wrd s 0 = wrd t 0) (h1 : wrd s 1 = wrd t 1) (h2 : wrd s 2 = wrd t 2) (h3 : wrd s 3 = wrd t 3) : s = t := by
  apply wrd_ext
  intro i hi
  rcases (by omega : i = 0 ∨ i = 1 ∨ i = 2 ∨ i = 3) with rfl | rfl | rfl | rfl
  · exact h0
  · exact h1
  · exact h2
  · exact h3

theorem wrd_nat (s : BitVec 256) (i : Nat) : wrd s i = ((s.toNat / 2 ^ (64 * i) % 2 ^ 64 : Nat) : Int) := by
  unfold wrd
  rw [BitVec.extractLsb'_toNat, Nat.shiftRight_eq_div_pow]

/-- Four words make a set. -/
theorem of_words (a b c d : Int) (ha : 0 ≤ a ∧ a < 18446744073709551616) (hb : 0 ≤ b ∧ b < 18446744073709551616) (hc : 0 ≤ c ∧ c < 18446744073709551616) (hd : 0 ≤ d ∧ d < 18446744073709551616) :
    ∃ s : BitVec 256, a = wrd s 0 ∧ b = wrd s 1 ∧ c = wrd s 2 ∧ d = wrd s 3 := by
  obtain ⟨a, rfl⟩ := Int.eq_ofNat_of_zero_le ha.1
  obtain ⟨b, rfl⟩ := Int.eq_ofNat_of_zero_le hb.1
  obtain ⟨c, rfl⟩ := Int.eq_ofNat_of_zero_le hc.1
  obtain ⟨d, rfl⟩ := Int.eq_ofNat_of_zero_le hd.1
  refine ⟨BitVec.ofNat 256 (a + b * 2 ^ 64 + c * 2 ^ 128 + d * 2 ^ 192), ?_, ?_, ?_, ?_⟩
  all_goals rw [wrd_nat, BitVec.toNat_ofNat]; skip
  all_goals omega

/-- The set of n alone; nothing where n may be in no set. -/
def bit (n : Int) : BitVec 256 := if 0 ≤ n ∧ n < 256 then BitVec.twoPow 256 n.toNat else 0

theorem bit_out {n : Int} (h : n < 0 ∨ 256 ≤ n) : bit n = 0 := by unfold bit; rw [if_neg (by omega)]
theorem bit_in {n : Int} (h0 : 0 ≤ n) (h1 : n < 256) : bit n = BitVec.twoPow 256 n.toNat := by unfold bit; rw [if_pos ⟨h0, h1⟩]

theorem getLsbD_bit (n : Int) (i : Nat) : (bit n).getLsbD i = decide (0 ≤ n ∧ n < 256 ∧ n = (i : Int)) := by
  unfold bit
  split
  · rename_i h
    rw [BitVec.getLsbD_twoPow]
    by_cases e : n = (i : Int)
    · subst e
      simp [h]
      omega
    · have e2 : ¬ n.toNat = i := by omega
      simp [e, e2]
  · rename_i h
    simp
    omega

theorem wrd_bit (n : Int) (k : Nat) (h0 : 0 ≤ n) (h1 : n < 256) (hk : n / 64 = (k : Int)) : IntKind.u64.wrap (2 ^ (n % 64).toNat) = wrd (bit n) k := by
  have hp : (2 : Nat) ^ (n % 64).toNat < 2 ^ 64 := Nat.pow_lt_pow_right (by decide) (by omega)
  have e : (bit n).extractLsb' (64 * k) 64 = BitVec.twoPow 64 (n % 64).toNat := by
    apply BitVec.eq_of_getLsbD_eq
    intro j hj
    rw [BitVec.getLsbD_extractLsb', getLsbD_bit, BitVec.getLsbD_twoPow]
    simp only [hj, decide_true, Bool.true_and]
    apply Bool.eq_iff_iff.2
    simp
    omega
  unfold wrd
  rw [e, BitVec.toNat_twoPow, IntKind.wrap_u64, Nat.mod_eq_of_lt hp]
  have hp2 : ((2 : Int) ^ (n % 64).toNat) = ((2 ^ (n % 64).toNat : Nat) : Int) := by simp
  rw [hp2]
  generalize (2 ^ (n % 64).toNat : Nat) = q at *
  omega

theorem wrd_zero (k : Nat) : wrd 0 k = 0 := by unfold wrd; simp

theorem wrd_bit_other (n : Int) (j : Nat) (hk : n / 64 ≠ (j : Int)) : wrd (bit n) j = 0 := by
  have e : (bit n).extractLsb' (64 * j) 64 = 0 := by
    apply BitVec.eq_of_getLsbD_eq
    intro i hi
    rw [BitVec.getLsbD_extractLsb', getLsbD_bit]
    simp
    omega
  unfold wrd
  rw [e]
  simp

theorem wrd_or_bit_other (s : BitVec 256) (n : Int) (j : Nat) (hk : n / 64 ≠ (j : Int)) : wrd (s ||| bit n) j = wrd s j := by
  have e : (s ||| bit n).extractLsb' (64 * j) 64 = s.extractLsb' (64 * j) 64 := by
    apply BitVec.eq_of_getLsbD_eq
    intro i hi
    rw [BitVec.getLsbD_extractLsb', BitVec.getLsbD_extractLsb', BitVec.getLsbD_or, getLsbD_bit]
    have : ¬ n = ((64 * j + i : Nat) : Int) := by omega
    simp [hi]
    omega
  unfold wrd
  rw [e]
theorem wrd_less_bit_other (s : BitVec 256) (n : Int) (j : Nat) (hj : j < 4) (hk : n / 64 ≠ (j : Int)) : wrd (s &&& ~~~ bit n) j = wrd s j := by
  have e : (s &&& ~~~ bit n).extractLsb' (64 * j) 64 = s.extractLsb' (64 * j) 64 := by
    apply BitVec.eq_of_getLsbD_eq
    intro i hi
    rw [BitVec.getLsbD_extractLsb', BitVec.getLsbD_extractLsb', BitVec.getLsbD_and, BitVec.getLsbD_not, getLsbD_bit]
    have h1 : 64 * j + i < 256 := by omega
    simp [hi, h1]
    omega
  unfold wrd
  rw [e]

theorem with_bit_out (s : BitVec 256) {n : Int} (h : n < 0 ∨ 256 ≤ n) : s ||| bit n = s := by rw [bit_out h]; simp
theorem less_bit_out (s : BitVec 256) {n : Int} (h : n < 0 ∨ 256 ≤ n) : s &&& ~~~ bit n = s := by
  rw [bit_out h]
  apply BitVec.eq_of_getLsbD_eq
  intro i hi
  rw [BitVec.getLsbD_and, BitVec.getLsbD_not, show (0 : BitVec 256).getLsbD i = false from BitVec.getLsbD_zero]
  simp [hi]

/-- Is n in the set? -/
def has (s : BitVec 256) (n : Int) : Bool := decide (0 ≤ n) && s.getLsbD n.toNat

theorem has_out (s : BitVec 256) {n : Int} (h : n < 0 ∨ 256 ≤ n) : has s n = false := by
  unfold has
  rcases h with h | h
  · have : ¬ 0 ≤ n := by omega
    simp [this]
  · rw [BitVec.getLsbD_of_ge _ _ (by omega)]; simp

theorem has_word (s : BitVec 256) (n : Int) (k : Nat) (h0 : 0 ≤ n) (hk : n / 64 = (k : Int)) : (bits .and .u64 (wrd s k / 2 ^ (n % 64).toNat) 1 == 1) = has s n := by
  obtain ⟨m, rfl⟩ := Int.eq_ofNat_of_zero_le h0
  have hm : ((m : Int) % 64).toNat = m % 64 := by omega
  have hm2 : m = 64 * k + m % 64 := by omega
  have hw := (s.extractLsb' (64 * k) 64).isLt
  unfold has wrd
  rw [hm]
  have e : (((s.extractLsb' (64 * k) 64).toNat : Int) / 2 ^ (m % 64)) = (((s.extractLsb' (64 * k) 64).toNat / 2 ^ (m % 64) : Nat) : Int) := by simp
  have hlt : (s.extractLsb' (64 * k) 64).toNat / 2 ^ (m % 64) < 18446744073709551616 := Nat.lt_of_le_of_lt (Nat.div_le_self _ _) (by omega)
  rw [e]
  have := bits_and_u64_nat ((s.extractLsb' (64 * k) 64).toNat / 2 ^ (m % 64)) 1 hlt (by decide)
  rw [Nat.and_one_is_mod] at this
  rw [show ((1 : Int)) = ((1 : Nat) : Int) from rfl, this]
  have e3 : (s.extractLsb' (64 * k) 64).getLsbD (m % 64) = s.getLsbD m := by
    rw [BitVec.getLsbD_extractLsb']
    have : m % 64 < 64 := by omega
    rw [← hm2]
    simp [this]
  have e4 : (s.extractLsb' (64 * k) 64).getLsbD (m % 64) = ((s.extractLsb' (64 * k) 64).toNat).testBit (m % 64) := rfl
  simp only [Int.toNat_natCast]
  rw [← e3, e4, Nat.testBit_eq_decide_div_mod_eq]
  generalize (s.extractLsb' (64 * k) 64).toNat / 2 ^ (m % 64) = q
  have h0 : decide ((0 : Int) ≤ (m : Int)) = true := by simp
  rw [h0, Bool.true_and]
  apply Bool.eq_iff_iff.2
  rw [beq_iff_eq, decide_eq_true_iff]
  omega

/-- The set of all numbers below n. -/
def full (n : Int) : BitVec 256 := BitVec.ofNat 256 (2 ^ n.toNat - 1)
theorem getLsbD_full (n : Int) (i : Nat) : (full n).getLsbD i = decide (i < 256 ∧ (i : Int) < n) := by
  unfold full
  rw [BitVec.getLsbD_ofNat, Nat.testBit_two_pow_sub_one]
  apply Bool.eq_iff_iff.2
  simp
theorem full_ones (n : Int) (j : Nat) (hj : j < 4) (h : 64 * ((j : Int) + 1) ≤ n) : wrd (full n) j = 18446744073709551615 := by
  have e : (full n).extractLsb' (64 * j) 64 = BitVec.allOnes 64 := by
    apply BitVec.eq_of_getLsbD_eq
    intro i hi
    rw [BitVec.getLsbD_extractLsb', getLsbD_full, BitVec.getLsbD_allOnes]
    apply Bool.eq_iff_iff.2
    simp
    omega
  unfold wrd
  rw [e]
  decide
theorem full_none (n : Int) (j : Nat) (h : n ≤ 64 * (j : Int)) : wrd (full n) j = 0 := by
  have e : (full n).extractLsb' (64 * j) 64 = 0#64 := by
    apply BitVec.eq_of_getLsbD_eq
    intro i hi
    rw [BitVec.getLsbD_extractLsb', getLsbD_full, BitVec.getLsbD_zero]
    apply Bool.eq_iff_iff.2
    simp
    omega
  unfold wrd
  rw [e]
  decide
theorem full_part (n : Int) (k : Nat) (hk : k < 4) (h0 : 64 * (k : Int) < n) (h1 : n < 64 * (k : Int) + 64) : IntKind.u64.wrap (IntKind.u64.wrap (2 ^ (n - 64 * (k : Int)).toNat) - 1) = wrd (full n) k := by
  have hp : (2 : Nat) ^ (n - 64 * (k : Int)).toNat < 2 ^ 64 := Nat.pow_lt_pow_right (by decide) (by omega)
  have hpos : 0 < (2 : Nat) ^ (n - 64 * (k : Int)).toNat := Nat.pow_pos (by decide)
  have e : (full n).extractLsb' (64 * k) 64 = BitVec.ofNat 64 (2 ^ (n - 64 * (k : Int)).toNat - 1) := by
    apply BitVec.eq_of_getLsbD_eq
    intro i hi
    rw [BitVec.getLsbD_extractLsb', getLsbD_full, BitVec.getLsbD_ofNat, Nat.testBit_two_pow_sub_one]
    apply Bool.eq_iff_iff.2
    simp
    omega
  unfold wrd
  rw [e, BitVec.toNat_ofNat, IntKind.wrap_u64, IntKind.wrap_u64]
  have hp2 : ((2 : Int) ^ (n - 64 * (k : Int)).toNat) = ((2 ^ (n - 64 * (k : Int)).toNat : Nat) : Int) := by simp
  rw [hp2]
  generalize (2 ^ (n - 64 * (k : Int)).toNat : Nat) = q at *
  omega
theorem full_least {n : Int} (h : n ≤ 0) : full n = full 0 := by
  apply BitVec.eq_of_getLsbD_eq
  intro i hi
  rw [getLsbD_full, getLsbD_full]
  apply Bool.eq_iff_iff.2
  simp
  omega
theorem full_most {n : Int} (h : 256 ≤ n) : full n = full 256 := by
  apply BitVec.eq_of_getLsbD_eq
  intro i hi
  rw [getLsbD_full, getLsbD_full]
  apply Bool.eq_iff_iff.2
  simp
  omega
end P
end Go.Proofs.Yteeaojciobmcaaa
