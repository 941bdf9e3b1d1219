/- The sum of a word's bits by halves, quarters and bytes is the number of its bits that are set. Plain arithmetic; no program is named. -/
import Derived.Laws.Bits64b
import Derived.Laws.BitsLemmas
namespace Go.Proofs.Yteeaojciobmcaaa
namespace P

/-- How many of the last f bits of x are set. -/
def pop : Nat → Nat → Nat
  | 0, _ => 0
  | f + 1, x => x % 2 + pop f (x / 2)

theorem pop_le : ∀ f x, pop f x ≤ f
  | 0, _ => Nat.le_refl _
  | f + 1, x => by have := pop_le f (x / 2); unfold pop; omega

theorem pop_add8 (f x : Nat) : pop (f + 8) x = pop 8 (x % 256) + pop f (x / 256) := by
  have e : x / 256 = x / 2 / 2 / 2 / 2 / 2 / 2 / 2 / 2 := by omega
  rw [e]
  simp only [pop]
  omega

theorem and_split (a y c z : Nat) (ha : a < 256) (hc : c < 256) : (a + 256 * y) &&& (c + 256 * z) = (a &&& c) + 256 * (y &&& z) := by
  have hac : a &&& c < 2 ^ 8 := Nat.and_lt_two_pow _ (by omega)
  apply Nat.eq_of_testBit_eq
  intro i
  have e1 : a + 256 * y = 2 ^ 8 * y + a := by omega
  have e2 : c + 256 * z = 2 ^ 8 * z + c := by omega
  have e3 : (a &&& c) + 256 * (y &&& z) = 2 ^ 8 * (y &&& z) + (a &&& c) := by omega
  rw [e3, Nat.testBit_two_pow_mul_add _ hac, Nat.testBit_and, e1, e2, Nat.testBit_two_pow_mul_add _ (by omega), Nat.testBit_two_pow_mul_add _ (by omega)]
  split
  · rw [Nat.testBit_and]
  · rw [Nat.testBit_and]

/-- n bytes c. -/
def rep (c : Nat) : Nat → Nat
  | 0 => 0
  | n + 1 => c + 256 * rep c n

def s1 (n x : Nat) : Nat := (x / 2 &&& rep 85 n) + (x &&& rep 85 n)
def s2 (n x : Nat) : Nat := (x / 4 &&& rep 51 n) + (x &&& rep 51 n)
def s3 (n x : Nat) : Nat := (x / 16 + x) &&& rep 15 n
def t1 (a : Nat) : Nat := (a / 2 &&& 85) + (a &&& 85)
def t2 (a : Nat) : Nat := (a / 4 &&& 51) + (a &&& 51)
def t3 (a : Nat) : Nat := (a / 16 + a) % 16

theorem byte_half : ∀ a, a < 256 → ∀ c, c < 2 → (a / 2 + 128 * c) &&& 85 = a / 2 &&& 85 := by decide +kernel
theorem byte_quarter : ∀ a, a < 256 → ∀ c, c < 4 → (a / 4 + 64 * c) &&& 51 = a / 4 &&& 51 := by decide +kernel
theorem t1_le : ∀ a, a < 256 → t1 a < 256 := by decide +kernel
theorem t2_le : ∀ a, a < 256 → t2 a < 256 := by decide +kernel
theorem t21 : ∀ a, a < 256 → t2 (t1 a) ≤ 68 ∧ t2 (t1 a) % 16 ≤ 4 ∧ t3 (t2 (t1 a)) = pop 8 a := by decide +kernel

theorem s1_step (n a y : Nat) (ha : a < 256) : s1 (n + 1) (a + 256 * y) = t1 a + 256 * s1 n y := by
  unfold s1 t1
  have e : (a + 256 * y) / 2 = (a / 2 + 128 * (y % 2)) + 256 * (y / 2) := by omega
  have h := byte_half a ha (y % 2) (by omega)
  simp only [rep]
  rw [e, and_split _ _ _ _ (by omega) (by decide), and_split _ _ _ _ ha (by decide), h]
  omega
theorem s2_step (n a y : Nat) (ha : a < 256) : s2 (n + 1) (a + 256 * y) = t2 a + 256 * s2 n y := by
  unfold s2 t2
  have e : (a + 256 * y) / 4 = (a / 4 + 64 * (y % 4)) + 256 * (y / 4) := by omega
  have h := byte_quarter a ha (y % 4) (by omega)
  simp only [rep]
  rw [e, and_split _ _ _ _ (by omega) (by decide), and_split _ _ _ _ ha (by decide), h]
  omega
theorem s3_step (n a y : Nat) (ha : a ≤ 68) (hy : y % 16 ≤ 4) : s3 (n + 1) (a + 256 * y) = t3 a + 256 * s3 n y := by
  unfold s3 t3
  have e : (a + 256 * y) / 16 + (a + 256 * y) = (a / 16 + a + 16 * (y % 16)) + 256 * (y / 16 + y) := by omega
  simp only [rep]
  rw [e, and_split _ _ _ _ (by omega) (by decide)]
  have h15 : (a / 16 + a + 16 * (y % 16)) &&& 15 = (a / 16 + a + 16 * (y % 16)) % 16 := Nat.and_two_pow_sub_one_eq_mod _ 4
  rw [h15]
  omega

/-- The numbers of bits, byte by byte. -/
def byB : Nat → Nat → Nat
  | 0, _ => 0
  | n + 1, x => pop 8 (x % 256) + 256 * byB n (x / 256)

theorem s21_low (n x : Nat) : s2 n (s1 n x) % 16 ≤ 4 := by
  cases n with
  | zero => simp [s2, rep]
  | succ n =>
    have e : x = x % 256 + 256 * (x / 256) := by omega
    have h := t21 (x % 256) (by omega)
    rw [e, s1_step _ _ _ (by omega), s2_step _ _ _ (t1_le _ (by omega))]
    omega

theorem s321 : ∀ n x, s3 n (s2 n (s1 n x)) = byB n x
  | 0, x => by simp [s3, rep, byB]
  | n + 1, x => by
    have e : x = x % 256 + 256 * (x / 256) := by omega
    have h := t21 (x % 256) (by omega)
    have l := s21_low n (x / 256)
    have ih := s321 n (x / 256)
    rw [show s1 (n + 1) x = s1 (n + 1) (x % 256 + 256 * (x / 256)) by rw [← e], s1_step _ _ _ (by omega), s2_step _ _ _ (t1_le _ (by omega)), s3_step _ _ _ h.1 l, ih, h.2.2]
    rfl

theorem m1 : rep 85 8 = 6148914691236517205 := by decide +kernel
theorem m2 : rep 51 8 = 3689348814741910323 := by decide +kernel
theorem m3 : rep 15 8 = 1085102592571150095 := by decide +kernel

theorem and_le_right' (a b : Nat) : a &&& b ≤ b := Nat.and_le_right

theorem sum8 (p0 p1 p2 p3 p4 p5 p6 p7 : Nat) (h0 : p0 ≤ 8) (a : Nat)
    (ha : a = p0 + 256 * (p1 + 256 * (p2 + 256 * (p3 + 256 * (p4 + 256 * (p5 + 256 * (p6 + 256 * p7))))))) :
    a + a / 256 = (p0 + p1) + 256 * ((p1 + p2) + 256 * ((p2 + p3) + 256 * ((p3 + p4) + 256 * ((p4 + p5) + 256 * ((p5 + p6) + 256 * ((p6 + p7) + 256 * p7)))))) := by
  have e : a / 256 = p1 + 256 * (p2 + 256 * (p3 + 256 * (p4 + 256 * (p5 + 256 * (p6 + 256 * p7))))) := by omega
  rw [e, ha]
  omega
theorem sum16 (p0 p1 p2 p3 p4 p5 p6 p7 : Nat) (h0 : p0 ≤ 16) (h1 : p1 ≤ 16) (a : Nat)
    (ha : a = p0 + 256 * (p1 + 256 * (p2 + 256 * (p3 + 256 * (p4 + 256 * (p5 + 256 * (p6 + 256 * p7))))))) :
    a + a / 65536 = (p0 + p2) + 256 * ((p1 + p3) + 256 * ((p2 + p4) + 256 * ((p3 + p5) + 256 * ((p4 + p6) + 256 * ((p5 + p7) + 256 * (p6 + 256 * p7)))))) := by
  have e : a / 65536 = p2 + 256 * (p3 + 256 * (p4 + 256 * (p5 + 256 * (p6 + 256 * p7)))) := by omega
  rw [e, ha]
  omega
theorem sum32 (p0 p1 p2 p3 p4 p5 p6 p7 : Nat) (h0 : p0 ≤ 32) (h1 : p1 ≤ 32) (h2 : p2 ≤ 32) (h3 : p3 ≤ 32) (h4 : p4 ≤ 32) (h5 : p5 ≤ 32) (h6 : p6 ≤ 32) (h7 : p7 ≤ 32) (a : Nat)
    (ha : a = p0 + 256 * (p1 + 256 * (p2 + 256 * (p3 + 256 * (p4 + 256 * (p5 + 256 * (p6 + 256 * p7))))))) :
    a + a / 4294967296 < 9223372036854775808 ∧ (a + a / 4294967296) % 128 = p0 + p4 := by
  have e : a / 4294967296 = p4 + 256 * (p5 + 256 * (p6 + 256 * p7)) := by omega
  rw [e, ha]
  omega
theorem sums (p0 p1 p2 p3 p4 p5 p6 p7 a : Nat) (h0 : p0 ≤ 8) (h1 : p1 ≤ 8) (h2 : p2 ≤ 8) (h3 : p3 ≤ 8) (h4 : p4 ≤ 8) (h5 : p5 ≤ 8) (h6 : p6 ≤ 8) (h7 : p7 ≤ 8)
    (ha : a = p0 + 256 * (p1 + 256 * (p2 + 256 * (p3 + 256 * (p4 + 256 * (p5 + 256 * (p6 + 256 * p7))))))) :
    ∃ b c d, b = a + a / 256 ∧ c = b + b / 65536 ∧ d = c + c / 4294967296 ∧ d < 9223372036854775808 ∧ d % 128 = p0 + (p1 + (p2 + (p3 + (p4 + (p5 + (p6 + p7)))))) := by
  have g : p0 + p1 + (p2 + p3) + (p4 + p5 + (p6 + p7)) = p0 + (p1 + (p2 + (p3 + (p4 + (p5 + (p6 + p7)))))) := by omega
  have f1 : p0 + p1 ≤ 16 := Nat.add_le_add h0 h1
  have f2 : p1 + p2 ≤ 16 := Nat.add_le_add h1 h2
  have f3 : p2 + p3 ≤ 16 := Nat.add_le_add h2 h3
  have f4 : p3 + p4 ≤ 16 := Nat.add_le_add h3 h4
  have f5 : p4 + p5 ≤ 16 := Nat.add_le_add h4 h5
  have f6 : p5 + p6 ≤ 16 := Nat.add_le_add h5 h6
  have f7 : p6 + p7 ≤ 16 := Nat.add_le_add h6 h7
  have f8 : p7 ≤ 16 := Nat.le_trans h7 (by decide)
  have f9 : p6 + p7 ≤ 32 := Nat.le_trans f7 (by decide)
  have f10 : p7 ≤ 32 := Nat.le_trans h7 (by decide)
  have e1 := sum8 p0 p1 p2 p3 p4 p5 p6 p7 h0 a ha
  have e2 := sum16 _ _ _ _ _ _ _ _ f1 f2 _ e1
  have e3 := sum32 _ _ _ _ _ _ _ _ (Nat.add_le_add f1 f3) (Nat.add_le_add f2 f4) (Nat.add_le_add f3 f5) (Nat.add_le_add f4 f6) (Nat.add_le_add f5 f7) (Nat.add_le_add f6 f8) f9 f10 _ e2
  exact ⟨_, _, _, rfl, rfl, rfl, e3.1, e3.2.trans g⟩

theorem byB_lt (x : Nat) : byB 8 x < 1000000000000000000 := by
  simp only [byB]
  have h := pop_le 8
  have h0 := h (x % 256)
  have h1 := h (x / 256 % 256)
  have h2 := h (x / 256 / 256 % 256)
  have h3 := h (x / 256 / 256 / 256 % 256)
  have h4 := h (x / 256 / 256 / 256 / 256 % 256)
  have h5 := h (x / 256 / 256 / 256 / 256 / 256 % 256)
  have h6 := h (x / 256 / 256 / 256 / 256 / 256 / 256 % 256)
  have h7 := h (x / 256 / 256 / 256 / 256 / 256 / 256 / 256 % 256)
  omega

theorem pop64 (x : Nat) : pop 64 x = pop 8 (x % 256) + (pop 8 (x / 256 % 256) + (pop 8 (x / 256 / 256 % 256) + (pop 8 (x / 256 / 256 / 256 % 256) + (pop 8 (x / 256 / 256 / 256 / 256 % 256) + (pop 8 (x / 256 / 256 / 256 / 256 / 256 % 256) + (pop 8 (x / 256 / 256 / 256 / 256 / 256 / 256 % 256) + pop 8 (x / 256 / 256 / 256 / 256 / 256 / 256 / 256 % 256))))))) := by
  have e1 := pop_add8 56 x
  have e2 := pop_add8 48 (x / 256)
  have e3 := pop_add8 40 (x / 256 / 256)
  have e4 := pop_add8 32 (x / 256 / 256 / 256)
  have e5 := pop_add8 24 (x / 256 / 256 / 256 / 256)
  have e6 := pop_add8 16 (x / 256 / 256 / 256 / 256 / 256)
  have e7 := pop_add8 8 (x / 256 / 256 / 256 / 256 / 256 / 256)
  have e8 := pop_add8 0 (x / 256 / 256 / 256 / 256 / 256 / 256 / 256)
  simp only [Nat.reduceAdd] at e1 e2 e3 e4 e5 e6 e7 e8
  have e9 : pop 0 (x / 256 / 256 / 256 / 256 / 256 / 256 / 256 / 256) = 0 := rfl
  omega

theorem byB8 (x : Nat) : byB 8 x = pop 8 (x % 256) + 256 * (pop 8 (x / 256 % 256) + 256 * (pop 8 (x / 256 / 256 % 256) + 256 * (pop 8 (x / 256 / 256 / 256 % 256) + 256 * (pop 8 (x / 256 / 256 / 256 / 256 % 256) + 256 * (pop 8 (x / 256 / 256 / 256 / 256 / 256 % 256) + 256 * (pop 8 (x / 256 / 256 / 256 / 256 / 256 / 256 % 256) + 256 * pop 8 (x / 256 / 256 / 256 / 256 / 256 / 256 / 256 % 256))))))) := by
  simp only [byB, Nat.mul_zero, Nat.add_zero]

theorem step1 (x : Nat) (hx : x < 18446744073709551616) : IntKind.u64.wrap (bits .and .u64 ((x : Int) / 2) 6148914691236517205 + bits .and .u64 (x : Int) 6148914691236517205) = ((s1 8 x : Nat) : Int) ∧ s1 8 x < 18446744073709551616 := by
  have h1 := bits_and_u64_nat (x / 2) 6148914691236517205 (by omega) (by omega)
  have h2 := bits_and_u64_nat x 6148914691236517205 hx (by omega)
  have b1 := and_le_right' (x / 2) 6148914691236517205
  have b2 := and_le_right' x 6148914691236517205
  have e : s1 8 x = (x / 2 &&& 6148914691236517205) + (x &&& 6148914691236517205) := by unfold s1; rw [m1]
  rw [e, show ((x : Int) / 2) = ((x / 2 : Nat) : Int) by omega, IntKind.wrap_u64]
  simp only [Int.cast_ofNat_Int] at h1 h2
  rw [h1, h2]
  omega

theorem step2 (y : Nat) (hy : y < 18446744073709551616) : IntKind.u64.wrap (bits .and .u64 ((y : Int) / 4) 3689348814741910323 + bits .and .u64 (y : Int) 3689348814741910323) = ((s2 8 y : Nat) : Int) ∧ s2 8 y ≤ 7378697629483820646 := by
  have h1 := bits_and_u64_nat (y / 4) 3689348814741910323 (by omega) (by omega)
  have h2 := bits_and_u64_nat y 3689348814741910323 hy (by omega)
  have b1 := and_le_right' (y / 4) 3689348814741910323
  have b2 := and_le_right' y 3689348814741910323
  have e : s2 8 y = (y / 4 &&& 3689348814741910323) + (y &&& 3689348814741910323) := by unfold s2; rw [m2]
  rw [e, show ((y : Int) / 4) = ((y / 4 : Nat) : Int) by omega, IntKind.wrap_u64]
  simp only [Int.cast_ofNat_Int] at h1 h2
  rw [h1, h2]
  omega

theorem step3 (y : Nat) (hy : y ≤ 7378697629483820646) : bits .and .u64 (IntKind.u64.wrap ((y : Int) / 16 + (y : Int))) 1085102592571150095 = ((s3 8 y : Nat) : Int) := by
  have h1 := bits_and_u64_nat (y / 16 + y) 1085102592571150095 (by omega) (by omega)
  have e : s3 8 y = (y / 16 + y) &&& 1085102592571150095 := by unfold s3; rw [m3]
  rw [IntKind.wrap_u64, show ((y : Int) / 16 + (y : Int)) % 18446744073709551616 = ((y / 16 + y : Nat) : Int) by omega, e]
  simp only [Int.cast_ofNat_Int] at h1
  exact h1

/-- THE CHAIN OF THE LIBRARY's TEXT GIVES THE NUMBER OF BITS. -/
theorem chain (x : Nat) (hx : x < 18446744073709551616) : ∃ a1 a2 a3 a4 a5 a6 : Int,
    IntKind.u64.wrap (bits .and .u64 ((x : Int) / 2) 6148914691236517205 + bits .and .u64 (x : Int) 6148914691236517205) = a1 ∧
    IntKind.u64.wrap (bits .and .u64 (a1 / 4) 3689348814741910323 + bits .and .u64 a1 3689348814741910323) = a2 ∧
    bits .and .u64 (IntKind.u64.wrap (a2 / 16 + a2)) 1085102592571150095 = a3 ∧
    IntKind.u64.wrap (a3 + a3 / 256) = a4 ∧ IntKind.u64.wrap (a4 + a4 / 65536) = a5 ∧ IntKind.u64.wrap (a5 + a5 / 4294967296) = a6 ∧
    0 ≤ a6 ∧ a6 < 9223372036854775808 ∧ a6 % 128 = ((pop 64 x : Nat) : Int) := by
  obtain ⟨a1, b1⟩ := step1 x hx
  obtain ⟨a2, b2⟩ := step2 _ b1
  have a3 := step3 _ b2
  have e3 := s321 8 x
  rw [e3] at a3
  have hp := byB8 x
  have b3 := byB_lt x
  obtain ⟨b, c, d, hb, hc, hd, hd1, hd2⟩ := sums _ _ _ _ _ _ _ _ _ (pop_le 8 _) (pop_le 8 _) (pop_le 8 _) (pop_le 8 _) (pop_le 8 _) (pop_le 8 _) (pop_le 8 _) (pop_le 8 _) hp
  rw [← pop64] at hd2
  clear hp e3
  generalize byB 8 x = a at *
  refine ⟨_, _, _, (b : Int), (c : Int), (d : Int), a1, a2, a3, ?_, ?_, ?_, ?_, ?_, ?_⟩
  · rw [IntKind.wrap_u64]; omega
  · rw [IntKind.wrap_u64]; omega
  · rw [IntKind.wrap_u64]; omega
  · omega
  · omega
  · omega

theorem and127 (a : Int) (h0 : 0 ≤ a) (h1 : a < 9223372036854775808) : bits .and .i64 a 127 = a % 128 :=
  bits_mask .i64 63 (by decide) (fun n _ _ => by rw [IntKind.wrap_i64]; omega) 7 (by decide) a h0 h1
end P
end Go.Proofs.Yteeaojciobmcaaa
