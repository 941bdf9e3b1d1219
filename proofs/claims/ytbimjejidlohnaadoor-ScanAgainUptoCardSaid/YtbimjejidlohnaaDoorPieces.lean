/- What stands between tokens: plain facts, no program. -/
import Derived.Test.YtbimjejidlohnaaDoorShown
import Derived.Test.YtbimjejidlohnaaDoorCut
namespace Go.Proofs.YtbimjejidlohnaaDoor
namespace P
/-- Between two places stands nothing that begins a token: blanks, then perhaps a remark. -/
def Gap (b : ByteArray) (i p : Nat) : Prop := ∃ m, i ≤ m ∧ m ≤ p ∧ (∀ x, i ≤ x → x < m → byt b x = 32 ∨ byt b x = 9) ∧ (m = p ∨ (byt b m = 35 ∧ ∀ x, m ≤ x → x < p → byt b x ≠ 10))
/-- Tokens that stand in a text from a place on, where they say. -/
def Pieces (b : ByteArray) : Nat → List Tok → Prop
  | i, [] => i = b.size
  | i, t :: l => i ≤ t.place ∧ t.place + t.text.size ≤ b.size ∧ t.text = b.extract t.place (t.place + t.text.size) ∧ (t.kind = 0 ↔ l = []) ∧ (t.text.size = 0 ↔ t.kind = 0) ∧ Gap b i t.place ∧ Pieces b (t.place + t.text.size) l
theorem run_stop {p : Nat → Bool} {b : ByteArray} : ∀ f k, run p b f k < k + f → p (byt b (run p b f k)) = false
  | 0, k, h => by rw [run] at h; omega
  | f + 1, k, h => by
    rw [run] at h ⊢
    split at h
    · rename_i c
      rw [if_pos c]
      exact run_stop f (k + 1) (by omega)
    · rename_i c
      rw [if_neg c]
      cases hp : p (byt b k) with
      | true => exact absurd hp c
      | false => rfl
theorem ext_stop {p : Nat → Bool} {b : ByteArray} {k : Nat} (hk : k ≤ b.size) (h : ext p b k < b.size) : p (byt b (ext p b k)) = false := by
  unfold ext at h ⊢
  exact run_stop _ _ (by omega)
theorem gap_blank {b : ByteArray} {j p : Nat} (hb : byt b j = 32 ∨ byt b j = 9) (h : Gap b (j + 1) p) : Gap b j p := by
  obtain ⟨m, h1, h2, h3, h4⟩ := h
  refine ⟨m, by omega, h2, fun x hx hx2 => ?_, h4⟩
  by_cases e : x = j
  · rw [e]; exact hb
  · exact h3 x (by omega) hx2
theorem gap_remark {b : ByteArray} {j p : Nat} (hj : j < b.size) (hb : byt b j = 35) (hp : p ≤ b.size) (h : Gap b (ext remark b j) p) : Gap b j p := by
  have hgt := ext_gt (p := remark) hj (by rw [hb]; rfl)
  have hle := ext_le (p := remark) (b := b) (k := j) (by omega)
  have hall : ∀ x, j ≤ x → x < ext remark b j → byt b x ≠ 10 := fun x h1 h2 e => by
    have := ext_all remark b _ j x h1 h2
    rw [e] at this
    cases this
  obtain ⟨m, h1, h2, h3, h4⟩ := h
  have hend : p = ext remark b j := by
    by_cases e : ext remark b j < p
    · have hs := ext_stop (p := remark) (Nat.le_of_lt hj) (by omega)
      have hs : byt b (ext remark b j) = 10 := by
        unfold remark at hs
        rw [bne_eq_false_iff_eq] at hs
        exact hs
      by_cases e2 : ext remark b j < m
      · have := h3 _ (Nat.le_refl _) e2
        omega
      · have e3 : m = ext remark b j := by omega
        rw [e3] at h4
        rcases h4 with h4 | h4
        · omega
        · have := h4.1
          omega
    · omega
  exact ⟨j, Nat.le_refl _, by omega, fun x _ _ => by omega, .inr ⟨hb, fun x hx hx2 => hall x hx (by omega)⟩⟩
theorem scan_pieces {b : ByteArray} : ∀ (f j : Nat), j ≤ b.size → b.size - j ≤ f → ∀ (l : List Tok), scan b f j = .ok l → Pieces b j l := by
  have hfin : ∀ j, b.size ≤ j → j ≤ b.size → Pieces b j [fin b] := by
    intro j h1 h2
    obtain rfl : j = b.size := by omega
    refine ⟨Nat.le_refl _, Nat.le_refl _, ?_, ⟨fun _ => rfl, fun _ => rfl⟩, ⟨fun _ => rfl, fun _ => rfl⟩, ⟨b.size, Nat.le_refl _, Nat.le_refl _, fun x _ _ => by omega, .inl rfl⟩, rfl⟩
    show ByteArray.empty = b.extract b.size (b.size + 0)
    rw [Nat.add_zero]
    apply ByteArray.ext
    apply Array.toList_inj.1
    symm
    apply List.eq_nil_of_length_eq_zero
    have := extract_size (b := b) (i := b.size) (j := b.size) (Nat.le_refl _)
    have e : (b.extract b.size b.size).data.toList.length = (b.extract b.size b.size).size := by simp
    omega
  intro f
  induction f with
  | zero =>
    intro j hj hf l h
    rw [← Except.ok.inj h]
    exact hfin j (by omega) hj
  | succ f ih =>
    intro j hj hf l h
    have hne := W.scan_ne _ _ _ h
    rw [scan] at h
    split at h
    · rename_i hs
      rw [← Except.ok.inj h]
      exact hfin j hs hj
    · rename_i hs
      split at h
      · rename_i hbl
        have hp := ih (j + 1) (by omega) (by omega) l h
        cases l with
        | nil => cases hne
        | cons t l =>
          obtain ⟨h1, h2, h3, h4, h5, h6, h7⟩ := hp
          exact ⟨by omega, h2, h3, h4, h5, gap_blank hbl h6, h7⟩
      · split at h
        · rename_i hre
          have hgt := ext_gt (p := remark) (b := b) (k := j) (by omega) (by rw [hre]; rfl)
          have hp := ih _ (ext_le hj) (by omega) l h
          cases l with
          | nil => cases hne
          | cons t l =>
            obtain ⟨h1, h2, h3, h4, h5, h6, h7⟩ := hp
            exact ⟨by omega, h2, h3, h4, h5, gap_remark (by omega) hre (by omega) h6, h7⟩
        · split at h
          · cases h
          · rename_i t ho
            have hfit := one_fits (by omega) ho
            split at h
            · cases h
            · rename_i l0 hl
              rw [← Except.ok.inj h]
              have hp := ih _ hfit.2.2.1 (by omega) l0 hl
              have hn0 := W.scan_ne _ _ _ hl
              refine ⟨by omega, by omega, by rw [hfit.1]; exact hfit.2.2.2.1, ⟨fun e => by omega, fun e => by rw [e] at hn0; cases hn0⟩, ⟨fun e => by omega, fun e => by omega⟩, ⟨j, Nat.le_refl _, by omega, fun x _ _ => by omega, .inl hfit.1.symm⟩, by rw [hfit.1]; exact hp⟩
theorem scanAll_pieces {b : ByteArray} {l : List Tok} (h : scanAll b = .ok l) : Pieces b 0 l := by
  unfold scanAll at h
  split at h
  · cases h
  · exact scan_pieces _ 0 (Nat.zero_le _) (by omega) l h
end P
end Go.Proofs.YtbimjejidlohnaaDoor
