/- A text that is cut, and what stands between tokens: plain facts, no program. -/
import Derived.Test.YtbimjejidlohnaaDoorNums
namespace Go.Proofs.YtbimjejidlohnaaDoor
namespace P
theorem size_cut {b : ByteArray} {m : Nat} (h : m ≤ b.size) : (b.extract 0 m).size = m := by
  have := extract_size (i := 0) h
  omega
theorem byt_cut {b : ByteArray} {m j : Nat} (hm : m ≤ b.size) (hj : j < m) : byt (b.extract 0 m) j = byt b j := by
  have := byt_extract (k := 0) (j := j) hm (by omega)
  rw [this, Nat.zero_add]
theorem extract_cut {b : ByteArray} {m i j : Nat} (hj : j ≤ m) : (b.extract 0 m).extract i j = b.extract i j := by
  rw [ByteArray.extract_extract, Nat.zero_add, Nat.zero_add, Nat.min_eq_left hj]
theorem ext_cut {p : Nat → Bool} {b : ByteArray} {m : Nat} (hm : m ≤ b.size) : ∀ (d k : Nat), m - k = d → k ≤ m → ext p b k ≤ m → ext p (b.extract 0 m) k = ext p b k
  | 0, k, hd, hk, he => by
    obtain rfl : k = m := by omega
    rw [ext_end (by rw [size_cut hm]; exact Nat.le_refl _)]
    have := ext_ge p b k
    omega
  | d + 1, k, hd, hk, he => by
    have hb := byt_cut hm (show k < m by omega)
    cases hp : p (byt b k) with
    | true =>
      rw [ext_in (by rw [size_cut hm]; omega) (by rw [hb]; exact hp), ext_in (by omega) hp]
      rw [ext_in (by omega) hp] at he
      exact ext_cut hm d (k + 1) (by omega) (by omega) he
    | false => rw [ext_out (by rw [hb]; exact hp), ext_out hp]
theorem num_cut {b : ByteArray} {m k e : Nat} (hm : m ≤ b.size) (hk : k ≤ e) (he : e ≤ m) : num (b.extract 0 m) k e = num b k e := by
  unfold num
  rw [dec_extract hm _ _ _ (by omega), Nat.zero_add]
theorem one_cut {b : ByteArray} {m j : Nat} {t : Tok} (hm : m ≤ b.size) (hj : j < b.size) (h : one b j = .ok t) (hf : j + t.text.size ≤ m) : one (b.extract 0 m) j = .ok t := by
  have h1 := one_fits hj h
  have hb := byt_cut hm (show j < m by omega)
  have hx : ∀ e, j ≤ e → t.text = b.extract j e → e ≤ b.size → e ≤ m := by
    intro e h2 h3 h4
    rw [h3, extract_size h4] at hf
    omega
  unfold one at h ⊢
  rw [hb]
  split at h
  · rename_i c
    rw [if_pos c, extract_cut (by omega)]
    exact h
  · rename_i c
    rw [if_neg c]
    split at h
    · rename_i c2
      rw [if_pos c2]
      split at h
      · cases h
      · rename_i c3
        have ht := Except.ok.inj h
        have he := hx (ext inner b j) (ext_ge _ _ _) (by rw [← ht]) (ext_le (by omega))
        rw [ext_cut hm _ j rfl (by omega) he, if_neg c3, extract_cut he]
        exact h
    · rename_i c2
      rw [if_neg c2]
      split at h
      · rename_i c4
        rw [if_pos c4]
        split at h
        · cases h
        · rename_i c3
          have ht := Except.ok.inj h
          have he := hx (ext inner b j) (ext_ge _ _ _) (by rw [← ht]) (ext_le (by omega))
          rw [ext_cut hm _ j rfl (by omega) he, if_neg c3, extract_cut he]
          exact h
      · rename_i c4
        rw [if_neg c4]
        split at h
        · rename_i c5
          rw [if_pos c5]
          split at h
          · cases h
          · rename_i c3
            have ht := Except.ok.inj h
            have he := hx (ext digit b j) (ext_ge _ _ _) (by rw [← ht]) (ext_le (by omega))
            rw [ext_cut hm _ j rfl (by omega) he, num_cut hm (ext_ge _ _ _) he, if_neg c3, extract_cut he]
            exact h
        · rename_i c5
          rw [if_neg c5]
          split at h
          · rename_i c6
            rw [if_pos c6, extract_cut (by omega)]
            exact h
          · cases h
/-- The end at a place. -/
def stop (k : Nat) : Tok := ⟨0, k, ByteArray.empty, 0⟩
theorem fin_cut {b : ByteArray} {m : Nat} (hm : m ≤ b.size) : fin (b.extract 0 m) = stop m := by
  unfold fin stop
  rw [size_cut hm]
theorem one_bad {b : ByteArray} {k e : Nat} (h : one b k = .error e) : 3 ≤ e ∧ e ≤ 5 := by
  unfold one at h
  split at h
  · cases h
  · split at h
    · split at h
      · have := Except.error.inj h; omega
      · cases h
    · split at h
      · split at h
        · have := Except.error.inj h; omega
        · cases h
      · split at h
        · split at h
          · have := Except.error.inj h; omega
          · cases h
        · split at h
          · cases h
          · have := Except.error.inj h; omega
/-- What is refused at a place is read up to there. -/
theorem scan_upto {b : ByteArray} : ∀ (f j k e : Nat), scan b f j = .error (k, e) → j ≤ k ∧ k < b.size ∧ 3 ≤ e ∧ e ≤ 5 ∧ ∃ l, scan (b.extract 0 k) f j = .ok (l ++ [stop k])
  | 0, j, k, e, h => by cases h
  | f + 1, j, k, e, h => by
    rw [scan] at h
    split at h
    · cases h
    · rename_i hj
      split at h
      · rename_i hbl
        obtain ⟨h1, h2, h3, h4, l, h5⟩ := scan_upto f _ k e h
        refine ⟨by omega, h2, h3, h4, l, ?_⟩
        rw [scan, size_cut (Nat.le_of_lt h2), byt_cut (Nat.le_of_lt h2) (by omega), if_neg (by omega), if_pos hbl, h5]
      · rename_i hbl
        split at h
        · rename_i hre
          obtain ⟨h1, h2, h3, h4, l, h5⟩ := scan_upto f _ k e h
          have hgt := ext_gt (p := remark) (b := b) (k := j) (by omega) (by rw [hre]; rfl)
          refine ⟨by omega, h2, h3, h4, l, ?_⟩
          rw [scan, size_cut (Nat.le_of_lt h2), byt_cut (Nat.le_of_lt h2) (by omega), if_neg (by omega), if_neg hbl, if_pos hre, ext_cut (Nat.le_of_lt h2) _ _ rfl (by omega) h1, h5]
        · rename_i hre
          split at h
          · rename_i e' ho
            have he := one_bad ho
            obtain ⟨rfl, rfl⟩ : j = k ∧ e' = e := by
              have := Except.error.inj h
              exact ⟨congrArg Prod.fst this, congrArg Prod.snd this⟩
            refine ⟨Nat.le_refl _, by omega, he.1, he.2, [], ?_⟩
            rw [scan, size_cut (by omega), if_pos (Nat.le_refl _), fin_cut (by omega)]
            rfl
          · rename_i t ho
            have hfit := one_fits (by omega) ho
            split at h
            · rename_i x hx
              have hx' : x = (k, e) := Except.error.inj h
              subst hx'
              obtain ⟨h1, h2, h3, h4, l, h5⟩ := scan_upto f _ k e hx
              refine ⟨by omega, h2, h3, h4, t :: l, ?_⟩
              rw [scan, size_cut (Nat.le_of_lt h2), byt_cut (Nat.le_of_lt h2) (by omega), if_neg (by omega), if_neg hbl, if_neg hre, one_cut (Nat.le_of_lt h2) (by omega) ho h1]
              simp only [h5, List.cons_append]
            · cases h
/-- A text that is cut where a token begins has the tokens ahead of it. -/
theorem scan_cut {b : ByteArray} : ∀ (f j : Nat), j ≤ b.size → b.size - j ≤ f → ∀ (l : List Tok), scan b f j = .ok l → ∀ (i : Nat) (t : Tok), l[i]? = some t → j ≤ t.place ∧ t.place ≤ b.size ∧ scan (b.extract 0 t.place) f j = .ok (l.take i ++ [stop t.place])
  | 0, j, hjs, hsf, l, h, i, t, ht => by
    have e : [fin b] = l := Except.ok.inj h
    subst e
    obtain rfl : i = 0 := by
      have := (List.getElem?_eq_some_iff.1 ht).1
      simpa using this
    obtain rfl : fin b = t := by simpa using ht
    have hp : (fin b).place = b.size := rfl
    rw [hp]
    refine ⟨hjs, Nat.le_refl _, ?_⟩
    rw [scan, fin_cut (Nat.le_refl _)]
    rfl
  | f + 1, j, hjs, hsf, l, h, i, t, ht => by
    rw [scan] at h
    split at h
    · rename_i hj
      have e : [fin b] = l := Except.ok.inj h
      subst e
      obtain rfl : i = 0 := by
        have := (List.getElem?_eq_some_iff.1 ht).1
        simpa using this
      obtain rfl : fin b = t := by simpa using ht
      have hp : (fin b).place = b.size := rfl
      rw [hp]
      refine ⟨hjs, Nat.le_refl _, ?_⟩
      rw [scan, size_cut (Nat.le_refl _), if_pos (by omega), fin_cut (Nat.le_refl _)]
      rfl
    · rename_i hj
      split at h
      · rename_i hbl
        obtain ⟨h1, h2, h5⟩ := scan_cut f (j + 1) (by omega) (by omega) l h i t ht
        refine ⟨by omega, h2, ?_⟩
        rw [scan, size_cut h2, byt_cut h2 (by omega), if_neg (by omega), if_pos hbl, h5]
      · rename_i hbl
        split at h
        · rename_i hre
          have hgt := ext_gt (p := remark) (b := b) (k := j) (by omega) (by rw [hre]; rfl)
          obtain ⟨h1, h2, h5⟩ := scan_cut f _ (ext_le hjs) (by omega) l h i t ht
          refine ⟨by omega, h2, ?_⟩
          rw [scan, size_cut h2, byt_cut h2 (by omega), if_neg (by omega), if_neg hbl, if_pos hre, ext_cut h2 _ _ rfl (by omega) h1, h5]
        · rename_i hre
          split at h
          · cases h
          · rename_i t0 ho
            have hfit := one_fits (by omega) ho
            split at h
            · cases h
            · rename_i l0 hl
              have e : t0 :: l0 = l := Except.ok.inj h
              subst e
              cases i with
              | zero =>
                obtain rfl : t0 = t := by simpa using ht
                refine ⟨by omega, by omega, ?_⟩
                rw [hfit.1, scan, size_cut hjs, if_pos (Nat.le_refl _), fin_cut hjs]
                rfl
              | succ i =>
                obtain ⟨h1, h2, h5⟩ := scan_cut f _ hfit.2.2.1 (by omega) l0 hl i t (by simpa using ht)
                refine ⟨by omega, h2, ?_⟩
                rw [scan, size_cut h2, byt_cut h2 (by omega), if_neg (by omega), if_neg hbl, if_neg hre, one_cut h2 (by omega) ho h1]
                simp only [h5, List.take_succ_cons, List.cons_append]
theorem scanAll_upto {b : ByteArray} {k e : Nat} (h : scanAll b = .error (k, e)) : (k = 262144 ∧ e = 2 ∧ 262144 < b.size) ∨ (k < b.size ∧ b.size ≤ 262144 ∧ 3 ≤ e ∧ e ≤ 5 ∧ ∃ l, scanAll (b.extract 0 k) = .ok (l ++ [stop k])) := by
  unfold scanAll at h
  split at h
  · rename_i hb
    have := Except.error.inj h
    exact .inl ⟨(congrArg Prod.fst this).symm, (congrArg Prod.snd this).symm, hb⟩
  · rename_i hb
    unfold scanFrom at h
    obtain ⟨h1, h2, h3, h4, l, h5⟩ := scan_upto _ _ k e h
    refine .inr ⟨h2, by omega, h3, h4, l, ?_⟩
    unfold scanAll scanFrom
    rw [if_neg (by rw [size_cut (Nat.le_of_lt h2)]; omega), size_cut (Nat.le_of_lt h2), ← h5]
    exact scan_more _ _ _ _ (by rw [size_cut (Nat.le_of_lt h2)]; omega) (by rw [size_cut (Nat.le_of_lt h2)]; omega)
theorem scanAll_cut {b : ByteArray} {l : List Tok} (h : scanAll b = .ok l) {i : Nat} {t : Tok} (ht : l[i]? = some t) : b.size ≤ 262144 ∧ t.place ≤ b.size ∧ scanAll (b.extract 0 t.place) = .ok (l.take i ++ [stop t.place]) := by
  unfold scanAll at h
  split at h
  · cases h
  · rename_i hb
    unfold scanFrom at h
    obtain ⟨_, h2, h5⟩ := scan_cut _ _ (Nat.zero_le _) (by omega) l h i t ht
    refine ⟨by omega, h2, ?_⟩
    unfold scanAll scanFrom
    rw [if_neg (by rw [size_cut h2]; omega), size_cut h2, ← h5]
    exact scan_more _ _ _ _ (by rw [size_cut h2]; omega) (by rw [size_cut h2]; omega)
theorem scan_len {b : ByteArray} : ∀ (f j : Nat) (l : List Tok), scan b f j = .ok l → l.length ≤ f + 1
  | 0, j, l, h => by rw [← Except.ok.inj h]; exact Nat.le_refl _
  | f + 1, j, l, h => by
    rw [scan] at h
    split at h
    · rw [← Except.ok.inj h]; exact Nat.succ_le_succ (Nat.zero_le _)
    · split at h
      · have := scan_len f _ l h; omega
      · split at h
        · have := scan_len f _ l h; omega
        · split at h
          · cases h
          · split at h
            · cases h
            · rename_i l0 hl
              have := scan_len f _ l0 hl
              rw [← Except.ok.inj h, List.length_cons]
              omega
theorem scanAll_len {b : ByteArray} {l : List Tok} (h : scanAll b = .ok l) : l.length ≤ b.size + 1 ∧ b.size ≤ 262144 := by
  unfold scanAll at h
  split at h
  · cases h
  · exact ⟨scan_len _ _ l h, by omega⟩
end P
end Go.Proofs.YtbimjejidlohnaaDoor
