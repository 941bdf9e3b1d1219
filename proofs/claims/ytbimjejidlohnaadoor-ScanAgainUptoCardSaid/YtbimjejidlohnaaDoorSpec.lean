/- What the scanner of a text answers: plain facts, no program. -/
import Derived.Laws.Strings
namespace Go.Proofs.YtbimjejidlohnaaDoor
namespace P
/-- Byte k of a text. -/
def byt (b : ByteArray) (k : Nat) : Nat := (b.data.toList.getD k 0).toNat
theorem byt_lt (b : ByteArray) (k : Nat) : byt b k < 256 := (b.data.toList.getD k 0).toNat_lt
def small (c : Nat) : Bool := decide (97 ≤ c) && decide (c ≤ 122)
def capital (c : Nat) : Bool := decide (65 ≤ c) && decide (c ≤ 90)
def digit (c : Nat) : Bool := decide (48 ≤ c) && decide (c ≤ 57)
def inner (c : Nat) : Bool := small c || (capital c || (digit c || c == 95))
def remark (c : Nat) : Bool := c != 10
/-- A sign: one byte that is seen, but none of the others and no underline. -/
def sign (c : Nat) : Bool := decide (33 ≤ c) && (decide (c ≤ 126) && c != 95)
/-- The place behind the bytes of one kind that stand in a row from a place on (at most f of them). -/
def run (p : Nat → Bool) (b : ByteArray) : Nat → Nat → Nat
  | 0, k => k
  | f + 1, k => if p (byt b k) = true then run p b f (k + 1) else k
def ext (p : Nat → Bool) (b : ByteArray) (k : Nat) : Nat := run p b (b.size - k) k
theorem ext_in {p : Nat → Bool} {b : ByteArray} {k : Nat} (h : k < b.size) (hp : p (byt b k) = true) : ext p b k = ext p b (k + 1) := by
  unfold ext
  rw [show b.size - k = (b.size - (k + 1)) + 1 by omega, run, if_pos hp]
theorem ext_out {p : Nat → Bool} {b : ByteArray} {k : Nat} (hp : p (byt b k) = false) : ext p b k = k := by
  unfold ext
  cases b.size - k with
  | zero => rfl
  | succ f => rw [run, if_neg (by rw [hp]; decide)]
theorem ext_end {p : Nat → Bool} {b : ByteArray} {k : Nat} (h : b.size ≤ k) : ext p b k = k := by
  unfold ext
  rw [show b.size - k = 0 by omega]
  rfl
theorem run_ge (p : Nat → Bool) (b : ByteArray) : ∀ f k, k ≤ run p b f k ∧ run p b f k ≤ k + f
  | 0, k => ⟨Nat.le_refl _, Nat.le_refl _⟩
  | f + 1, k => by
    rw [run]
    split
    · have := run_ge p b f (k + 1); omega
    · omega
theorem ext_ge (p : Nat → Bool) (b : ByteArray) (k : Nat) : k ≤ ext p b k := (run_ge p b _ k).1
theorem ext_le {p : Nat → Bool} {b : ByteArray} {k : Nat} (h : k ≤ b.size) : ext p b k ≤ b.size := by
  have := (run_ge p b (b.size - k) k).2
  unfold ext
  omega
/-- What digits tell, from place k on to place e, on top of v. -/
def dec (b : ByteArray) : Nat → Nat → Nat → Nat
  | 0, _, v => v
  | f + 1, k, v => dec b f (k + 1) (v * 10 + (byt b k - 48))
/-- The number that the digits from k to e tell. -/
def num (b : ByteArray) (k e : Nat) : Nat := dec b (e - k) k 0
theorem dec_ge (b : ByteArray) : ∀ f k v, v ≤ dec b f k v
  | 0, _, v => Nat.le_refl _
  | f + 1, k, v => by
    rw [dec]
    have := dec_ge b f (k + 1) (v * 10 + (byt b k - 48))
    omega
/-- A token: its kind, its place, its bytes, what a number tells. -/
structure Tok where
  kind : Nat
  place : Nat
  text : ByteArray
  number : Nat
deriving DecidableEq
/-- The token that begins at place k, where no blank stands; or the error's number. -/
def one (b : ByteArray) (k : Nat) : Except Nat Tok :=
  if byt b k = 10 then .ok ⟨1, k, b.extract k (k + 1), 0⟩
  else if small (byt b k) = true then (if 8 < ext inner b k - k then .error 5 else .ok ⟨2, k, b.extract k (ext inner b k), 0⟩)
  else if capital (byt b k) = true then (if 8 < ext inner b k - k then .error 5 else .ok ⟨3, k, b.extract k (ext inner b k), 0⟩)
  else if digit (byt b k) = true then
    (if 1 < ext digit b k - k ∧ byt b k = 48 ∨ 9999 < num b k (ext digit b k) then .error 4 else .ok ⟨4, k, b.extract k (ext digit b k), num b k (ext digit b k)⟩)
  else if sign (byt b k) = true then .ok ⟨5, k, b.extract k (k + 1), 0⟩
  else .error 3
/-- The end of a text. -/
def fin (b : ByteArray) : Tok := ⟨0, b.size, ByteArray.empty, 0⟩
/-- The tokens from place k on (f: at most so many steps); or where, and why not. -/
def scan (b : ByteArray) : Nat → Nat → Except (Nat × Nat) (List Tok)
  | 0, _ => .ok [fin b]
  | f + 1, k =>
    if b.size ≤ k then .ok [fin b]
    else if byt b k = 32 ∨ byt b k = 9 then scan b f (k + 1)
    else if byt b k = 35 then scan b f (ext remark b k)
    else match one b k with
      | .error e => .error (k, e)
      | .ok t => match scan b f (k + t.text.size) with
        | .error e => .error e
        | .ok l => .ok (t :: l)
def scanFrom (b : ByteArray) (k : Nat) : Except (Nat × Nat) (List Tok) := scan b (b.size - k) k
/-- All of a text. -/
def scanAll (b : ByteArray) : Except (Nat × Nat) (List Tok) := if 262144 < b.size then .error (262144, 2) else scanFrom b 0
theorem extract_size {b : ByteArray} {i j : Nat} (h : j ≤ b.size) : (b.extract i j).size = j - i := by
  rw [ByteArray.size_extract]
  omega
theorem digit_inner {c : Nat} (h : digit c = true) : inner c = true := by unfold inner; rw [h]; simp
theorem small_inner {c : Nat} (h : small c = true) : inner c = true := by unfold inner; rw [h]; simp
theorem capital_inner {c : Nat} (h : capital c = true) : inner c = true := by unfold inner; rw [h]; simp
theorem ext_gt {p : Nat → Bool} {b : ByteArray} {k : Nat} (h : k < b.size) (hp : p (byt b k) = true) : k < ext p b k := by
  rw [ext_in h hp]
  have := ext_ge p b (k + 1)
  omega
/-- A token stands in its text: it has at least one byte, its bytes are those there. -/
theorem one_fits {b : ByteArray} {k : Nat} {t : Tok} (hk : k < b.size) (h : one b k = .ok t) : t.place = k ∧ 0 < t.text.size ∧ k + t.text.size ≤ b.size ∧ t.text = b.extract k (k + t.text.size) ∧ 1 ≤ t.kind ∧ t.kind ≤ 5 := by
  have gen : ∀ e, k < e → e ≤ b.size → ∀ n m, 1 ≤ n → n ≤ 5 → t = ⟨n, k, b.extract k e, m⟩ → t.place = k ∧ 0 < t.text.size ∧ k + t.text.size ≤ b.size ∧ t.text = b.extract k (k + t.text.size) ∧ 1 ≤ t.kind ∧ t.kind ≤ 5 := by
    intro e h1 h2 n m h3 h4 ht
    subst ht
    have hs := extract_size (i := k) h2
    refine ⟨rfl, ?_, ?_, ?_, h3, h4⟩
    · show 0 < (b.extract k e).size; omega
    · show k + (b.extract k e).size ≤ b.size; omega
    · show b.extract k e = b.extract k (k + (b.extract k e).size)
      rw [hs, show k + (e - k) = e by omega]
  unfold one at h
  split at h
  · exact gen (k + 1) (by omega) (by omega) 1 0 (by decide) (by decide) (Except.ok.inj h).symm
  · split at h
    · rename_i hs
      split at h
      · cases h
      · exact gen _ (ext_gt hk (small_inner hs)) (ext_le (by omega)) 2 0 (by decide) (by decide) (Except.ok.inj h).symm
    · split at h
      · rename_i hs
        split at h
        · cases h
        · exact gen _ (ext_gt hk (capital_inner hs)) (ext_le (by omega)) 3 0 (by decide) (by decide) (Except.ok.inj h).symm
      · split at h
        · rename_i hs
          split at h
          · cases h
          · exact gen _ (ext_gt hk hs) (ext_le (by omega)) 4 _ (by decide) (by decide) (Except.ok.inj h).symm
        · split at h
          · exact gen (k + 1) (by omega) (by omega) 5 0 (by decide) (by decide) (Except.ok.inj h).symm
          · cases h
/-- With enough steps more change nothing. -/
theorem scan_more (b : ByteArray) : ∀ f g k, b.size - k ≤ f → b.size - k ≤ g → scan b f k = scan b g k := by
  intro f
  induction f with
  | zero =>
    intro g k hf hg
    cases g with
    | zero => rfl
    | succ g => rw [scan, scan, if_pos (by omega)]
  | succ f ih =>
    intro g k hf hg
    cases g with
    | zero => rw [scan, scan, if_pos (by omega)]
    | succ g =>
      rw [scan, scan]
      by_cases h : b.size ≤ k
      · rw [if_pos h, if_pos h]
      · rw [if_neg h, if_neg h]
        split
        · exact ih g (k + 1) (by omega) (by omega)
        · split
          · rename_i hr
            have := ext_gt (p := remark) (b := b) (k := k) (by omega) (by rw [hr]; rfl)
            exact ih g _ (by omega) (by omega)
          · cases ho : one b k with
            | error e => rfl
            | ok t =>
              have := one_fits (by omega) ho
              dsimp only
              rw [ih g (k + t.text.size) (by omega) (by omega)]
theorem scanFrom_end {b : ByteArray} {k : Nat} (h : b.size ≤ k) : scanFrom b k = .ok [fin b] := by
  unfold scanFrom
  rw [show b.size - k = 0 by omega, scan]
theorem scanFrom_blank {b : ByteArray} {k : Nat} (h : k < b.size) (hb : byt b k = 32 ∨ byt b k = 9) : scanFrom b k = scanFrom b (k + 1) := by
  unfold scanFrom
  rw [show b.size - k = (b.size - (k + 1)) + 1 by omega, scan, if_neg (by omega), if_pos hb]
theorem scanFrom_remark {b : ByteArray} {k : Nat} (h : k < b.size) (hb : byt b k = 35) : scanFrom b k = scanFrom b (ext remark b k) := by
  unfold scanFrom
  have := ext_gt (p := remark) (b := b) (k := k) h (by rw [hb]; rfl)
  have h2 := ext_le (p := remark) (b := b) (k := k) (by omega)
  rw [show b.size - k = (b.size - (k + 1)) + 1 by omega, scan, if_neg (by omega), if_neg (by omega), if_pos hb]
  exact scan_more b _ _ _ (by omega) (by omega)
theorem scanFrom_bad {b : ByteArray} {k e : Nat} (h : k < b.size) (h1 : byt b k ≠ 32) (h2 : byt b k ≠ 9) (h3 : byt b k ≠ 35) (ho : one b k = .error e) : scanFrom b k = .error (k, e) := by
  unfold scanFrom
  rw [show b.size - k = (b.size - (k + 1)) + 1 by omega, scan, if_neg (by omega), if_neg (by omega), if_neg h3, ho]
theorem scanFrom_one {b : ByteArray} {k : Nat} {t : Tok} (h : k < b.size) (h1 : byt b k ≠ 32) (h2 : byt b k ≠ 9) (h3 : byt b k ≠ 35) (ho : one b k = .ok t) :
    scanFrom b k = match scanFrom b (k + t.text.size) with | .error e => .error e | .ok l => .ok (t :: l) := by
  have hf := one_fits h ho
  unfold scanFrom
  rw [show b.size - k = (b.size - (k + 1)) + 1 by omega, scan, if_neg (by omega), if_neg (by omega), if_neg h3, ho]
  simp only []
  rw [scan_more b (b.size - (k + 1)) (b.size - (k + t.text.size)) (k + t.text.size) (by omega) (by omega)]
end P
end Go.Proofs.YtbimjejidlohnaaDoor
