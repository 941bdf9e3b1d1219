/- The tokens' own bytes, with blanks behind each: plain facts, no program. -/
import Derived.Test.YtbimjejidlohnaaDoorNamed
namespace Go.Proofs.YtbimjejidlohnaaDoor
namespace P
theorem byt_over {p q : ByteArray} {i : Nat} : byt (p ++ q) (p.size + i) = byt q i := by
  rw [byt_append_right (by omega), Nat.add_sub_cancel_left]
theorem extract_mid (p u q : ByteArray) : (p ++ (u ++ q)).extract p.size (p.size + u.size) = u := by
  apply ext_list
  rw [list_extract, list_append, list_append, ← list_size p, List.drop_left, ← list_size u, Nat.add_sub_cancel_left]
  exact List.take_left
theorem append_assoc (x y z : ByteArray) : x ++ y ++ z = x ++ (y ++ z) := by
  apply ext_list
  simp only [list_append, List.append_assoc]
theorem empty_append (x : ByteArray) : ByteArray.empty ++ x = x := by
  apply ext_list
  rw [list_append]
  rfl
theorem append_empty (x : ByteArray) : x ++ ByteArray.empty = x := by
  apply ext_list
  rw [list_append]
  exact List.append_nil _
/-- A token by itself: its text alone is that token. -/
def Self (t : Tok) : Prop := 0 < t.text.size ∧ one t.text 0 = .ok ⟨t.kind, 0, t.text, t.number⟩ ∧ byt t.text 0 ≠ 32 ∧ byt t.text 0 ≠ 9 ∧ byt t.text 0 ≠ 35 ∧ (t.kind = 1 → byt t.text 0 = 10)
theorem one_self {b : ByteArray} {j : Nat} {t : Tok} (hj : j < b.size) (n1 : byt b j ≠ 32) (n2 : byt b j ≠ 9) (n3 : byt b j ≠ 35) (h : one b j = .ok t) : Self t := by
  have hf := one_fits hj h
  have hb : ∀ e, e ≤ b.size → ∀ i, j + i < e → byt (b.extract j e) i = byt b (j + i) := fun e he i hi => byt_extract he hi
  have hall : ∀ (p : Nat → Bool), p (byt b j) = true → ext p (b.extract j (ext p b j)) 0 = ext p b j - j := fun p hp => by
    have hle := ext_le (p := p) (b := b) (k := j) (by omega)
    have hsz := extract_size (b := b) (i := j) hle
    rw [ext_full (fun x hx => by
      have hx' : j + x < ext p b j := by omega
      rw [hb _ hle _ hx']
      exact ext_all p b _ j _ (by omega) hx'), hsz]
  have h0 : ∀ e, e ≤ b.size → j < e → byt (b.extract j e) 0 = byt b j := fun e he h => hb e he 0 (by omega)
  have hex : ∀ e, e ≤ b.size → (b.extract j e).extract 0 (e - j) = b.extract j e := fun e he => by
    have hsz := extract_size (b := b) (i := j) he
    have := extract_full (b.extract j e)
    rw [hsz] at this
    exact this
  unfold one at h
  split at h
  · rename_i c
    have ht := (Except.ok.inj h).symm
    subst ht
    have e0 := h0 (j + 1) hj (by omega)
    refine ⟨hf.2.1, ?_, by show byt (b.extract j (j + 1)) 0 ≠ 32; omega, by show byt (b.extract j (j + 1)) 0 ≠ 9; omega, by show byt (b.extract j (j + 1)) 0 ≠ 35; omega, fun _ => by show byt (b.extract j (j + 1)) 0 = 10; omega⟩
    unfold one
    rw [if_pos (show byt (b.extract j (j + 1)) 0 = 10 by omega)]
    have := hex (j + 1) hj
    rw [show j + 1 - j = 0 + 1 by omega] at this
    rw [this]
  · rename_i c
    split at h
    · rename_i c2
      split at h
      · cases h
      · rename_i c3
        have ht := (Except.ok.inj h).symm
        subst ht
        have hle := ext_le (p := inner) (b := b) (k := j) (by omega)
        have hgt := ext_gt hj (small_inner c2)
        have e0 := h0 _ hle hgt
        refine ⟨hf.2.1, ?_, by show byt (b.extract j _) 0 ≠ 32; omega, by show byt (b.extract j _) 0 ≠ 9; omega, by show byt (b.extract j _) 0 ≠ 35; omega, fun e => by cases e⟩
        unfold one
        rw [e0, if_neg c, if_pos c2, hall inner (small_inner c2), Nat.sub_zero, if_neg c3, hex _ hle]
    · rename_i c2
      split at h
      · rename_i c4
        split at h
        · cases h
        · rename_i c3
          have ht := (Except.ok.inj h).symm
          subst ht
          have hle := ext_le (p := inner) (b := b) (k := j) (by omega)
          have hgt := ext_gt hj (capital_inner c4)
          have e0 := h0 _ hle hgt
          refine ⟨hf.2.1, ?_, by show byt (b.extract j _) 0 ≠ 32; omega, by show byt (b.extract j _) 0 ≠ 9; omega, by show byt (b.extract j _) 0 ≠ 35; omega, fun e => by cases e⟩
          unfold one
          rw [e0, if_neg c, if_neg c2, if_pos c4, hall inner (capital_inner c4), Nat.sub_zero, if_neg c3, hex _ hle]
      · rename_i c4
        split at h
        · rename_i c5
          split at h
          · cases h
          · rename_i c3
            have ht := (Except.ok.inj h).symm
            subst ht
            have hle := ext_le (p := digit) (b := b) (k := j) (by omega)
            have hgt := ext_gt hj c5
            have e0 := h0 _ hle hgt
            have hn : num (b.extract j (ext digit b j)) 0 (ext digit b j - j) = num b j (ext digit b j) := by
              unfold num
              rw [Nat.sub_zero, dec_extract hle _ _ _ (by omega), Nat.add_zero]
            refine ⟨hf.2.1, ?_, by show byt (b.extract j _) 0 ≠ 32; omega, by show byt (b.extract j _) 0 ≠ 9; omega, by show byt (b.extract j _) 0 ≠ 35; omega, fun e => by cases e⟩
            unfold one
            rw [e0, if_neg c, if_neg c2, if_neg c4, if_pos c5, hall digit c5, Nat.sub_zero, hn, if_neg c3, hex _ hle]
        · rename_i c5
          split at h
          · rename_i c6
            have ht := (Except.ok.inj h).symm
            subst ht
            have e0 := h0 (j + 1) hj (by omega)
            refine ⟨hf.2.1, ?_, by show byt (b.extract j _) 0 ≠ 32; omega, by show byt (b.extract j _) 0 ≠ 9; omega, by show byt (b.extract j _) 0 ≠ 35; omega, fun e => by cases e⟩
            unfold one
            rw [e0, if_neg c, if_neg c2, if_neg c4, if_neg c5, if_pos c6]
            have := hex (j + 1) hj
            rw [show j + 1 - j = 0 + 1 by omega] at this
            rw [this]
          · cases h
/-- All tokens but the end are tokens by themselves. -/
theorem scan_self {b : ByteArray} : ∀ (f j : Nat) (l : List Tok), scan b f j = .ok l → ∀ t ∈ l.dropLast, Self t
  | 0, j, l, h => by rw [← Except.ok.inj h]; intro t ht; cases ht
  | f + 1, j, l, h => by
    rw [scan] at h
    split at h
    · rw [← Except.ok.inj h]; intro t ht; cases ht
    · rename_i hj
      split at h
      · exact scan_self f _ l h
      · rename_i hbl
        split at h
        · exact scan_self f _ l h
        · rename_i hre
          split at h
          · cases h
          · rename_i t0 ho
            split at h
            · cases h
            · rename_i l0 hl
              rw [← Except.ok.inj h, dropLast_cons (W.scan_ne _ _ _ hl)]
              intro t ht
              rcases List.mem_cons.1 ht with rfl | ht
              · exact one_self (by omega) (fun e => hbl (.inl e)) (fun e => hbl (.inr e)) hre ho
              · exact scan_self f _ l0 hl t ht
/-- A token by itself, in a text, with a blank behind it. -/
theorem one_in {p u q : ByteArray} {kind number : Nat} (hu : 0 < u.size) (h : one u 0 = .ok ⟨kind, 0, u, number⟩) (hq : 0 < q.size) (hb : byt q 0 = 32 ∨ byt q 0 = 9) : one (p ++ (u ++ q)) p.size = .ok ⟨kind, p.size, u, number⟩ := by
  have hz : (p ++ (u ++ q)).size = p.size + (u.size + q.size) := by rw [ByteArray.size_append, ByteArray.size_append]
  have hd : p.size + u.size ≤ (p ++ (u ++ q)).size := by omega
  have hx := extract_mid p u q
  have he : byt (p ++ (u ++ q)) (p.size + u.size) = byt q 0 := by
    rw [byt_over]
    have := byt_over (p := u) (q := q) (i := 0)
    rw [Nat.add_zero] at this
    exact this
  have hbyt : byt (p ++ (u ++ q)) p.size = byt u 0 := by
    have := emb_byt hd hx hu
    rw [Nat.add_zero] at this
    exact this
  have gext : ∀ (r : Nat → Bool), r 32 = false → r 9 = false → ∀ (n j : Nat), u.size - j = n → j ≤ u.size → ext r (p ++ (u ++ q)) (p.size + j) = p.size + ext r u j := by
    intro r r1 r2 n
    induction n with
    | zero =>
      intro j hn hj
      obtain rfl : j = u.size := by omega
      rw [ext_end (Nat.le_refl _)]
      exact ext_out (by rw [he]; rcases hb with hb | hb <;> rw [hb] <;> assumption)
    | succ n ih =>
      intro j hn hj
      have hbj := emb_byt hd hx (show j < u.size by omega)
      cases hr : r (byt u j) with
      | true =>
        rw [ext_in (by omega) (by rw [hbj]; exact hr), ext_in (b := u) (by omega) hr]
        exact ih (j + 1) (by omega) (by omega)
      | false => rw [ext_out (by rw [hbj]; exact hr), ext_out hr]
  have g1 := gext inner rfl rfl _ 0 rfl (Nat.zero_le _)
  have g2 := gext digit rfl rfl _ 0 rfl (Nat.zero_le _)
  rw [Nat.add_zero] at g1 g2
  have m1 := ext_le (p := inner) (b := u) (k := 0) (Nat.zero_le _)
  have m2 := ext_le (p := digit) (b := u) (k := 0) (Nat.zero_le _)
  have e1 := emb_extract hx (j := 0) (e := 0 + 1) hu
  have e2 := emb_extract hx (j := 0) (e := ext inner u 0) m1
  have e3 := emb_extract hx (j := 0) (e := ext digit u 0) m2
  have e4 := emb_num hd hx (Nat.zero_le _) m2
  rw [Nat.add_zero] at e1 e2 e3 e4
  unfold one at h ⊢
  rw [hbyt, g1, g2, e4, Nat.add_sub_cancel_left, Nat.add_sub_cancel_left, e2, e3, show p.size + 1 = p.size + (0 + 1) by omega, e1]
  rw [Nat.sub_zero, Nat.sub_zero] at h
  revert h
  repeat' split
  all_goals intro h
  all_goals first | (cases h; done) | skip
  all_goals
    have hh := Except.ok.inj h
    have a1 := congrArg Tok.kind hh
    have a2 := congrArg Tok.text hh
    have a3 := congrArg Tok.number hh
    simp only at a1 a2 a3
    rw [← a1, ← a3]
    congr 1
    rw [a2]
/-- Blanks. -/
def Blank (x : ByteArray) : Prop := 0 < x.size ∧ ∀ i, i < x.size → byt x i = 32 ∨ byt x i = 9
theorem scan_blanks {p x q : ByteArray} (h : ∀ i, i < x.size → byt x i = 32 ∨ byt x i = 9) : ∀ (n j : Nat), x.size - j = n → j ≤ x.size → scanFrom (p ++ (x ++ q)) (p.size + j) = scanFrom (p ++ (x ++ q)) (p.size + x.size)
  | 0, j, hn, hj => by
    obtain rfl : j = x.size := by omega
    rfl
  | n + 1, j, hn, hj => by
    have hz : (p ++ (x ++ q)).size = p.size + (x.size + q.size) := by rw [ByteArray.size_append, ByteArray.size_append]
    have hb := emb_byt (by omega) (extract_mid p x q) (show j < x.size by omega)
    rw [scanFrom_blank (by omega) (by rw [hb]; exact h j (by omega)), Nat.add_assoc]
    exact scan_blanks h n (j + 1) (by omega) (by omega)
def hash : ByteArray := ⟨#[35]⟩
/-- A remark is let by, up to a line's end. -/
theorem scan_note {p note q : ByteArray} (hn : ∀ i, i < note.size → byt note i ≠ 10) (hq : 0 < q.size) (hb : byt q 0 = 10) : scanFrom (p ++ (hash ++ note ++ q)) p.size = scanFrom (p ++ (hash ++ note ++ q)) (p.size + (hash ++ note).size) := by
  have hz : (p ++ (hash ++ note ++ q)).size = p.size + ((hash ++ note).size + q.size) := by rw [ByteArray.size_append, ByteArray.size_append]
  have hh : (hash ++ note).size = 1 + note.size := by rw [ByteArray.size_append]; rfl
  have hd : p.size + (hash ++ note).size ≤ (p ++ (hash ++ note ++ q)).size := by omega
  have hx := extract_mid p (hash ++ note) q
  have hi : ∀ x, x < (hash ++ note).size → byt (hash ++ note) x ≠ 10 := fun x hx => by
    by_cases h0 : x = 0
    · rw [h0, byt_append_left (show 0 < hash.size from Nat.one_pos)]
      decide
    · have := byt_over (p := hash) (q := note) (i := x - 1)
      rw [show hash.size + (x - 1) = x by show 1 + (x - 1) = x; omega] at this
      rw [this]
      exact hn _ (by omega)
  have h0 : byt (p ++ (hash ++ note ++ q)) p.size = 35 := by
    have := emb_byt hd hx (j := 0) (by omega)
    rw [Nat.add_zero] at this
    rw [this, byt_append_left (show 0 < hash.size from Nat.one_pos)]
    decide
  have he : byt (p ++ (hash ++ note ++ q)) (p.size + (hash ++ note).size) = 10 := by
    rw [byt_over]
    have := byt_over (p := hash ++ note) (q := q) (i := 0)
    rw [Nat.add_zero] at this
    rw [this]
    exact hb
  have hext := emb_ext (p := remark) rfl hd hx (.inr he) _ 0 rfl (Nat.zero_le _)
  rw [Nat.add_zero, ext_full (p := remark) (b := hash ++ note) (fun x hx => by unfold remark; rw [bne_iff_ne]; exact hi x hx)] at hext
  rw [scanFrom_remark (by omega) h0, hext]
/-- The tokens' own bytes, with blanks behind each, and a remark ahead of each line's end. -/
def cat (note : ByteArray) (bl : Nat → ByteArray) : Nat → List Tok → ByteArray
  | _, [] => ByteArray.empty
  | i, t :: l => (if t.kind = 1 then hash ++ note else ByteArray.empty) ++ (t.text ++ (bl i ++ cat note bl (i + 1) l))
/-- The same tokens, but for their places. -/
def Like (l m : List Tok) : Prop := l.length = m.length ∧ ∀ (i : Nat) (t u : Tok), l[i]? = some t → m[i]? = some u → u.kind = t.kind ∧ u.text = t.text ∧ u.number = t.number
theorem like_cons {t u : Tok} {l m : List Tok} (h1 : u.kind = t.kind) (h2 : u.text = t.text) (h3 : u.number = t.number) (h : Like l m) : Like (t :: l) (u :: m) := by
  refine ⟨by rw [List.length_cons, List.length_cons, h.1], fun i x y hx hy => ?_⟩
  cases i with
  | zero =>
    obtain rfl : t = x := by simpa using hx
    obtain rfl : u = y := by simpa using hy
    exact ⟨h1, h2, h3⟩
  | succ i => exact h.2 i x y (by simpa using hx) (by simpa using hy)
set_option maxHeartbeats 1000000 in
theorem cat_scan {note : ByteArray} {bl : Nat → ByteArray} (hn : ∀ i, i < note.size → byt note i ≠ 10) (hbl : ∀ i, Blank (bl i)) (z : Nat) : ∀ (l : List Tok) (i : Nat) (p : ByteArray), (∀ t ∈ l, Self t) →
    ∃ m, scanFrom (p ++ cat note bl i (l ++ [⟨0, z, ByteArray.empty, 0⟩])) p.size = .ok m ∧ Like (l ++ [⟨0, z, ByteArray.empty, 0⟩]) m
  | [], i, p, _ => by
    show ∃ m, scanFrom (p ++ ((if (0 : Nat) = 1 then hash ++ note else ByteArray.empty) ++ (ByteArray.empty ++ (bl i ++ ByteArray.empty)))) p.size = .ok m ∧ _
    rw [if_neg (by decide), empty_append, empty_append]
    have h := scan_blanks (p := p) (x := bl i) (q := ByteArray.empty) (hbl i).2 _ 0 rfl (Nat.zero_le _)
    rw [Nat.add_zero] at h
    have hz : (p ++ (bl i ++ ByteArray.empty)).size = p.size + (bl i).size := by rw [append_empty, ByteArray.size_append]
    refine ⟨[fin (p ++ (bl i ++ ByteArray.empty))], by rw [h, scanFrom_end (by omega)], rfl, fun k t u ht hu => ?_⟩
    cases k with
    | zero =>
      obtain rfl := Option.some.inj ht
      obtain rfl := Option.some.inj hu
      exact ⟨rfl, rfl, rfl⟩
    | succ k => cases ht
  | t :: l, i, p, hs => by
    obtain ⟨s1, s2, s3, s4, s5, s6⟩ := hs t (List.mem_cons_self ..)
    have hq : 0 < (bl i ++ cat note bl (i + 1) (l ++ [⟨0, z, ByteArray.empty, 0⟩])).size := by rw [ByteArray.size_append]; have := (hbl i).1; omega
    have hq0 : byt (bl i ++ cat note bl (i + 1) (l ++ [⟨0, z, ByteArray.empty, 0⟩])) 0 = 32 ∨ byt (bl i ++ cat note bl (i + 1) (l ++ [⟨0, z, ByteArray.empty, 0⟩])) 0 = 9 := by
      rw [byt_append_left (hbl i).1]
      exact (hbl i).2 0 (hbl i).1
    have core : ∀ p' : ByteArray, ∃ m, scanFrom (p' ++ (t.text ++ (bl i ++ cat note bl (i + 1) (l ++ [⟨0, z, ByteArray.empty, 0⟩])))) p'.size = .ok m ∧ Like (t :: (l ++ [⟨0, z, ByteArray.empty, 0⟩])) m := by
      intro p'
      have h1 := one_in (p := p') s1 s2 hq hq0
      have hz : (p' ++ (t.text ++ (bl i ++ cat note bl (i + 1) (l ++ [⟨0, z, ByteArray.empty, 0⟩])))).size = p'.size + (t.text.size + (bl i ++ cat note bl (i + 1) (l ++ [⟨0, z, ByteArray.empty, 0⟩])).size) := by rw [ByteArray.size_append, ByteArray.size_append]
      have hb : byt (p' ++ (t.text ++ (bl i ++ cat note bl (i + 1) (l ++ [⟨0, z, ByteArray.empty, 0⟩])))) p'.size = byt t.text 0 := by
        have := emb_byt (by omega) (extract_mid p' t.text (bl i ++ cat note bl (i + 1) (l ++ [⟨0, z, ByteArray.empty, 0⟩]))) s1
        rw [Nat.add_zero] at this
        exact this
      have h2 := scanFrom_one (by omega) (by rw [hb]; exact s3) (by rw [hb]; exact s4) (by rw [hb]; exact s5) h1
      have e1 : p' ++ (t.text ++ (bl i ++ cat note bl (i + 1) (l ++ [⟨0, z, ByteArray.empty, 0⟩]))) = (p' ++ t.text) ++ (bl i ++ cat note bl (i + 1) (l ++ [⟨0, z, ByteArray.empty, 0⟩])) := (append_assoc _ _ _).symm
      have h3 := scan_blanks (p := p' ++ t.text) (x := bl i) (q := cat note bl (i + 1) (l ++ [⟨0, z, ByteArray.empty, 0⟩])) (hbl i).2 _ 0 rfl (Nat.zero_le _)
      have h3' : scanFrom ((p' ++ t.text) ++ (bl i ++ cat note bl (i + 1) (l ++ [⟨0, z, ByteArray.empty, 0⟩]))) (p'.size + t.text.size) = scanFrom ((p' ++ t.text) ++ (bl i ++ cat note bl (i + 1) (l ++ [⟨0, z, ByteArray.empty, 0⟩]))) (p'.size + t.text.size + (bl i).size) := by
        have h4 := h3
        rw [ByteArray.size_append] at h4
        exact h4
      obtain ⟨m, hm1, hm2⟩ := cat_scan hn hbl z l (i + 1) (p' ++ t.text ++ bl i) (fun x hx => hs x (List.mem_cons_of_mem _ hx))
      rw [append_assoc (p' ++ t.text), ByteArray.size_append, ByteArray.size_append] at hm1
      refine ⟨⟨t.kind, p'.size, t.text, t.number⟩ :: m, ?_, like_cons rfl rfl rfl hm2⟩
      rw [h2]
      simp only []
      rw [e1, h3', hm1]
    have hcat : cat note bl i (t :: l ++ [⟨0, z, ByteArray.empty, 0⟩]) = (if t.kind = 1 then hash ++ note else ByteArray.empty) ++ (t.text ++ (bl i ++ cat note bl (i + 1) (l ++ [⟨0, z, ByteArray.empty, 0⟩]))) := rfl
    rw [hcat, List.cons_append]
    by_cases hk : t.kind = 1
    · rw [if_pos hk]
      obtain ⟨m, hm1, hm2⟩ := core (p ++ (hash ++ note))
      refine ⟨m, ?_, hm2⟩
      rw [scan_note hn (by rw [ByteArray.size_append]; omega) (by rw [byt_append_left s1]; exact s6 hk)]
      rw [append_assoc, ByteArray.size_append] at hm1
      exact hm1
    · rw [if_neg hk, empty_append]
      exact core p
theorem cat_size {note : ByteArray} {bl : Nat → ByteArray} (hn : note.size ≤ 1048576) (hbl : ∀ i, (bl i).size ≤ 4) : ∀ (l : List Tok) (i : Nat), (∀ t ∈ l, t.text.size ≤ 262144) → (cat note bl i l).size ≤ l.length * 1310725
  | [], _, _ => Nat.zero_le _
  | t :: l, i, h => by
    have h1 := cat_size hn hbl l (i + 1) (fun x hx => h x (List.mem_cons_of_mem _ hx))
    have h2 := h t (List.mem_cons_self ..)
    have h3 := hbl i
    have h4 : (if t.kind = 1 then hash ++ note else ByteArray.empty).size ≤ 1 + note.size := by
      split
      · rw [ByteArray.size_append]; exact Nat.le_refl _
      · exact Nat.zero_le _
    show ((if t.kind = 1 then hash ++ note else ByteArray.empty) ++ (t.text ++ (bl i ++ cat note bl (i + 1) l))).size ≤ _
    rw [ByteArray.size_append, ByteArray.size_append, ByteArray.size_append, List.length_cons]
    omega
end P
end Go.Proofs.YtbimjejidlohnaaDoor
