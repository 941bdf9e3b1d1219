/- A text within a text: plain facts, no program. -/
import Derived.Test.YtbimjejidlohnaaDoorCut
import Derived.Test.YtbimjejidlohnaaDoorSame
namespace Go.Proofs.YtbimjejidlohnaaDoor
namespace P
section
variable {c b : ByteArray} {d : Nat}
theorem emb_byt (hd : d + b.size ≤ c.size) (hx : c.extract d (d + b.size) = b) {j : Nat} (hj : j < b.size) : byt c (d + j) = byt b j := by
  have h := byt_extract (b := c) (k := d) (e := d + b.size) (j := j) hd (by omega)
  rw [hx] at h
  exact h.symm
theorem emb_extract (hx : c.extract d (d + b.size) = b) {j e : Nat} (he : e ≤ b.size) : c.extract (d + j) (d + e) = b.extract j e := by
  have h := congrArg (fun x => ByteArray.extract x j e) hx
  simp only [ByteArray.extract_extract] at h
  rw [Nat.min_eq_left (by omega)] at h
  exact h
theorem emb_ext {p : Nat → Bool} (hp : p 10 = false) (hd : d + b.size ≤ c.size) (hx : c.extract d (d + b.size) = b) (he : d + b.size = c.size ∨ byt c (d + b.size) = 10) : ∀ (n j : Nat), b.size - j = n → j ≤ b.size → ext p c (d + j) = d + ext p b j
  | 0, j, hn, hj => by
    obtain rfl : j = b.size := by omega
    rw [ext_end (Nat.le_refl _)]
    rcases he with he | he
    · exact ext_end (by omega)
    · exact ext_out (by rw [he]; exact hp)
  | n + 1, j, hn, hj => by
    have hb := emb_byt hd hx (show j < b.size by omega)
    cases hq : p (byt b j) with
    | true =>
      rw [ext_in (by omega) (by rw [hb]; exact hq), ext_in (b := b) (by omega) hq]
      exact emb_ext hp hd hx he n (j + 1) (by omega) (by omega)
    | false => rw [ext_out (by rw [hb]; exact hq), ext_out hq]
theorem emb_num (hd : d + b.size ≤ c.size) (hx : c.extract d (d + b.size) = b) {j e : Nat} (hj : j ≤ e) (he : e ≤ b.size) : num c (d + j) (d + e) = num b j e := by
  unfold num
  have h := dec_extract (b := c) (k := d) (e := d + b.size) hd (e - j) j 0 (by omega)
  rw [hx] at h
  rw [h, show d + e - (d + j) = e - j by omega]
theorem emb_one (hd : d + b.size ≤ c.size) (hx : c.extract d (d + b.size) = b) (he : d + b.size = c.size ∨ byt c (d + b.size) = 10) {j : Nat} (hj : j < b.size) : one c (d + j) = (one b j).map (W.shift d) := by
  have h1 := emb_byt hd hx hj
  have h2 := emb_ext (p := inner) rfl hd hx he _ j rfl (Nat.le_of_lt hj)
  have h3 := emb_ext (p := digit) rfl hd hx he _ j rfl (Nat.le_of_lt hj)
  have m2 := ext_le (p := inner) (b := b) (k := j) (by omega)
  have m3 := ext_le (p := digit) (b := b) (k := j) (by omega)
  have m4 := ext_ge digit b j
  have e1 := emb_extract hx (j := j) (e := j + 1) hj
  have e2 := emb_extract hx (j := j) (e := ext inner b j) m2
  have e3 := emb_extract hx (j := j) (e := ext digit b j) m3
  have e4 := emb_num hd hx m4 m3
  unfold one
  rw [h1, h2, h3, e4, show d + ext inner b j - (d + j) = ext inner b j - j by omega, show d + ext digit b j - (d + j) = ext digit b j - j by omega, show d + j + 1 = d + (j + 1) by omega, e1, e2, e3]
  have hc : d + j = j + d := Nat.add_comm _ _
  rw [hc]
  repeat' split
  all_goals first | rfl | (exfalso; contradiction)
theorem pre_nil (x : Except (Nat × Nat) (List Tok)) : W.pre [] x = x := by cases x <;> rfl
theorem pre_cons (t : Tok) (l : List Tok) (x : Except (Nat × Nat) (List Tok)) : W.pre (t :: l) x = match W.pre l x with | .error e => .error e | .ok r => .ok (t :: r) := by cases x <;> rfl
theorem scanFrom_ne {b : ByteArray} {j : Nat} {l : List Tok} (h : scanFrom b j = .ok l) : 0 < l.length := W.scan_ne _ _ _ h
theorem dropLast_cons {t : Tok} {l : List Tok} (h : 0 < l.length) : (t :: l).dropLast = t :: l.dropLast := by
  cases l with
  | nil => cases h
  | cons u r => rfl
/-- What stands within a text is read as it is read alone. -/
theorem emb_scan (hd : d + b.size ≤ c.size) (hx : c.extract d (d + b.size) = b) (he : d + b.size = c.size ∨ byt c (d + b.size) = 10) : ∀ (n j : Nat), b.size - j ≤ n → j ≤ b.size →
    scanFrom c (d + j) = match scanFrom b j with | .error (k, e) => .error (d + k, e) | .ok l => W.pre (l.dropLast.map (W.shift d)) (scanFrom c (d + b.size)) := by
  intro n
  induction n with
  | zero =>
    intro j hn hj
    obtain rfl : j = b.size := by omega
    rw [scanFrom_end (Nat.le_refl _)]
    exact (pre_nil _).symm
  | succ n ih =>
    intro j hn hj
    by_cases hjs : j < b.size
    · have hb := emb_byt hd hx hjs
      have hjc : d + j < c.size := by omega
      by_cases hbl : byt b j = 32 ∨ byt b j = 9
      · rw [scanFrom_blank hjs hbl, scanFrom_blank hjc (by rw [hb]; exact hbl)]
        exact ih (j + 1) (by omega) (by omega)
      · by_cases hre : byt b j = 35
        · have hgt := ext_gt (p := remark) hjs (by rw [hre]; rfl)
          rw [scanFrom_remark hjs hre, scanFrom_remark hjc (by rw [hb]; exact hre), emb_ext (p := remark) rfl hd hx he _ j rfl hj]
          exact ih _ (by omega) (ext_le hj)
        · have ho := emb_one hd hx he hjs
          have n1 : byt b j ≠ 32 := fun e => hbl (.inl e)
          have n2 : byt b j ≠ 9 := fun e => hbl (.inr e)
          cases h1 : one b j with
          | error e =>
            rw [h1] at ho
            rw [scanFrom_bad hjs n1 n2 hre h1, scanFrom_bad hjc (by rw [hb]; exact n1) (by rw [hb]; exact n2) (by rw [hb]; exact hre) ho]
          | ok t =>
            rw [h1] at ho
            have hf := one_fits hjs h1
            have hi := ih (j + t.text.size) (by omega) hf.2.2.1
            rw [scanFrom_one hjs n1 n2 hre h1, scanFrom_one hjc (by rw [hb]; exact n1) (by rw [hb]; exact n2) (by rw [hb]; exact hre) ho]
            have hsz : (W.shift d t).text.size = t.text.size := rfl
            rw [hsz, Nat.add_assoc, hi]
            cases h2 : scanFrom b (j + t.text.size) with
            | error x => rfl
            | ok l =>
              simp only []
              rw [dropLast_cons (scanFrom_ne h2), List.map_cons, pre_cons]
              generalize W.pre (List.map (W.shift d) l.dropLast) (scanFrom c (d + b.size)) = x
              cases x <;> rfl
    · obtain rfl : j = b.size := by omega
      rw [scanFrom_end (Nat.le_refl _)]
      exact (pre_nil _).symm
end
theorem scan_last {b : ByteArray} : ∀ (f j : Nat) (l : List Tok), scan b f j = .ok l → l = l.dropLast ++ [fin b]
  | 0, j, l, h => by rw [← Except.ok.inj h]; rfl
  | f + 1, j, l, h => by
    rw [scan] at h
    split at h
    · rw [← Except.ok.inj h]; rfl
    · split at h
      · exact scan_last f _ l h
      · split at h
        · exact scan_last f _ l h
        · split at h
          · cases h
          · split at h
            · cases h
            · rename_i l0 hl
              rw [← Except.ok.inj h, dropLast_cons (W.scan_ne _ _ _ hl), List.cons_append, ← scan_last f _ l0 hl]
theorem scanAll_last {b : ByteArray} {l : List Tok} (h : scanAll b = .ok l) : l = l.dropLast ++ [fin b] := by
  unfold scanAll at h
  split at h
  · cases h
  · exact scan_last _ _ _ h
def nl : ByteArray := ⟨#[10]⟩
theorem ext_list {x y : ByteArray} (h : x.data.toList = y.data.toList) : x = y := ByteArray.ext (Array.toList_inj.1 h)
theorem list_extract (x : ByteArray) (i j : Nat) : (x.extract i j).data.toList = (x.data.toList.drop i).take (j - i) := by simp
theorem list_append (x y : ByteArray) : (x ++ y).data.toList = x.data.toList ++ y.data.toList := by simp
theorem list_size (x : ByteArray) : x.data.toList.length = x.size := by simp
section
variable (a b : ByteArray)
theorem join_size : (a ++ nl ++ b).size = a.size + 1 + b.size := by
  rw [ByteArray.size_append, ByteArray.size_append]
  rfl
theorem join_a : (a ++ nl ++ b).extract 0 (0 + a.size) = a := by
  apply ext_list
  rw [list_extract, list_append, list_append, List.drop_zero, List.append_assoc]
  have := list_size a
  rw [List.take_append_of_le_length (by omega), List.take_of_length_le (by omega)]
theorem join_nl : (a ++ nl ++ b).extract a.size (a.size + 1) = nl := by
  apply ext_list
  rw [list_extract, list_append, list_append, List.append_assoc, ← list_size a, List.drop_left]
  have h1 : nl.data.toList = [10] := rfl
  rw [h1, show a.data.toList.length + 1 - a.data.toList.length = 1 by omega]
  rfl
theorem join_b : (a ++ nl ++ b).extract (a.size + 1) (a.size + 1 + b.size) = b := by
  apply ext_list
  have h1 : (a ++ nl).data.toList.length = a.size + 1 := by rw [list_size, ByteArray.size_append]; rfl
  rw [list_extract, list_append, ← h1, List.drop_left, ← list_size b]
  rw [show (a ++ nl).data.toList.length + b.data.toList.length - (a ++ nl).data.toList.length = b.data.toList.length by omega]
  exact List.take_length
theorem join_byt : byt (a ++ nl ++ b) a.size = 10 := by
  have h := byt_extract (b := a ++ nl ++ b) (k := a.size) (e := a.size + 1) (j := 0) (by rw [join_size]; omega) (by omega)
  rw [join_nl] at h
  exact h.symm
theorem join_big (h : 262144 < a.size + 1 + b.size) : scanAll (a ++ nl ++ b) = .error (262144, 2) := by
  unfold scanAll
  rw [if_pos (by rw [join_size]; exact h)]
/-- What is read of two texts, one behind the other, with a line feed between. -/
theorem join_scan (h : a.size + 1 + b.size ≤ 262144) : scanAll (a ++ nl ++ b) = match scanAll a with
    | .error e => .error e
    | .ok l => match scanAll b with
      | .error (k, e) => .error (a.size + 1 + k, e)
      | .ok m => .ok (l.dropLast ++ (⟨1, a.size, nl, 0⟩ :: m.map (W.shift (a.size + 1)))) := by
  have hs := join_size a b
  have e1 := emb_scan (c := a ++ nl ++ b) (b := a) (d := 0) (by omega) (join_a a b) (.inr (by rw [Nat.zero_add]; exact join_byt a b)) _ 0 (Nat.le_refl _) (Nat.zero_le _)
  have e2 := emb_scan (c := a ++ nl ++ b) (b := b) (d := a.size + 1) (by omega) (join_b a b) (.inl hs.symm) _ 0 (Nat.le_refl _) (Nat.zero_le _)
  have hb := join_byt a b
  have e3 := scanFrom_one (b := a ++ nl ++ b) (k := a.size) (t := ⟨1, a.size, nl, 0⟩) (by omega) (by rw [hb]; decide) (by rw [hb]; decide) (by rw [hb]; decide) (by unfold one; rw [if_pos hb, join_nl])
  unfold scanAll
  rw [if_neg (by omega), if_neg (by omega), if_neg (by omega)]
  rw [Nat.zero_add] at e1
  rw [Nat.add_zero, ← hs, scanFrom_end (Nat.le_refl _)] at e2
  have hz : (⟨1, a.size, nl, 0⟩ : Tok).text.size = 1 := rfl
  rw [hz, e2] at e3
  rw [e1]
  cases ha : scanFrom a 0 with
  | error x => simp only [Nat.zero_add]
  | ok l =>
    simp only []
    rw [Nat.zero_add, e3, W.map_shift0]
    cases hbb : scanFrom b 0 with
    | error x => rfl
    | ok m =>
      have hl := scan_last _ _ _ hbb
      have hfin : W.shift (a.size + 1) (fin b) = fin (a ++ nl ++ b) := by
        unfold fin W.shift
        simp only [hs, Nat.add_comm]
      have hmap : m.map (W.shift (a.size + 1)) = m.dropLast.map (W.shift (a.size + 1)) ++ [fin (a ++ nl ++ b)] := by
        conv => lhs; rw [hl]
        rw [List.map_append, List.map_cons, List.map_nil, hfin]
      simp only [W.pre, hmap]
end
end P
end Go.Proofs.YtbimjejidlohnaaDoor
