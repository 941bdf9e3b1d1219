/- The document's example. -/
import Derived.Test.YtbimjejidlohnaaDoorFault
import Derived.Deep.MidRow
namespace Go.Proofs.YtbimjejidlohnaaDoor
open Go.RowKit
namespace W

/-- Block g holds tokens in a row. -/
structure Toks (w : World) (g : Nat) (l : List P.Tok) : Prop where
  lt : g < w.heap.size
  c : ∀ (i : Nat) (t : P.Tok), l[i]? = some t → ∀ (j : Nat) (v : Value), (tokCells t)[j]? = some v → w.cell? ⟨g, i * 4 + j, none⟩ = some v
theorem Toks.on {w w' : World} {g : Nat} {l : List P.Tok} (h : Toks w g l) (hb : Below w.heap.size w w') : Toks w' g l :=
  ⟨Nat.lt_of_lt_of_le h.lt hb.size, fun i t ht j v hv => by rw [hb.cell (p := ⟨g, i * 4 + j, none⟩) h.lt]; exact h.c i t ht j v hv⟩
theorem flat_get : ∀ (l : List P.Tok) (i : Nat) (t : P.Tok), l[i]? = some t → ∀ (j : Nat) (v : Value), (tokCells t)[j]? = some v → (flat l)[i * 4 + j]? = some v
  | [], i, t, h, _, _, _ => by simp at h
  | t0 :: l, 0, t, h, j, v, hv => by
    obtain rfl : t0 = t := by simpa using h
    have hj : j < 4 := by
      have := (Array.getElem?_eq_some_iff.1 hv).1
      simpa [tokCells] using this
    show ((tokCells t0).toList ++ flat l)[0 * 4 + j]? = _
    rw [List.getElem?_append_left (by simp [tokCells]; omega), Nat.zero_mul, Nat.zero_add]
    simpa using hv
  | t0 :: l, i + 1, t, h, j, v, hv => by
    show ((tokCells t0).toList ++ flat l)[(i + 1) * 4 + j]? = _
    have hl : (tokCells t0).toList.length = 4 := rfl
    rw [List.getElem?_append_right (by omega), hl, show (i + 1) * 4 + j - 4 = i * 4 + j by omega]
    exact flat_get l i t (by simpa using h) j v hv
/-- What a call handed back as its tokens: a slice of a block of its own. -/
theorem slice_of {w : World} {B : Nat} {v : Value} {l : List P.Tok} (h : w.ownsRow B 35 4 v l.length (flat l)) (hl : 0 < l.length) :
    ∃ g cap, v = .slice (some ⟨g, 0, none⟩) l.length cap ∧ B ≤ g ∧ l.length ≤ cap ∧ cap ≤ maxLen ∧ Toks w g l := by
  rcases h.2 with ⟨_, h2⟩ | ⟨g, cap, cur, rfl, hb, hg, h1, h2, h3, h4⟩
  · omega
  · refine ⟨g, cap, rfl, hb, h1, h2, lt_of_block hg, fun i t ht j v hv => ?_⟩
    have hf := flat_get l i t ht j v hv
    rw [cell_of_row w g (i * 4 + j) _ _ (0, 0) hg, ← hf, ← h4]
    have hlt : i * 4 + j < l.length * 4 := by
      have := (List.getElem?_eq_some_iff.1 hf).1
      rw [flat_length] at this
      exact this
    rw [List.getElem?_take_of_lt hlt]
    simp
def lit1 : ByteArray := ⟨#[109, 117, 32, 88, 49, 46, 112, 50, 32, 49, 50]⟩
def lit2 : ByteArray := ⟨#[97, 32, 95]⟩
def toks1 : List P.Tok := [⟨2, 0, ⟨#[109, 117]⟩, 0⟩, ⟨3, 3, ⟨#[88, 49]⟩, 0⟩, ⟨5, 5, ⟨#[46]⟩, 0⟩, ⟨2, 6, ⟨#[112, 50]⟩, 0⟩, ⟨4, 9, ⟨#[49, 50]⟩, 12⟩, ⟨0, 11, ByteArray.empty, 0⟩]
theorem scan1 : P.scanAll lit1 = .ok toks1 := by kernel_rfl
theorem scan2 : P.scanAll lit2 = .error (2, 3) := by kernel_rfl
theorem scan_ne {b : ByteArray} : ∀ (f k : Nat) (l : List P.Tok), P.scan b f k = .ok l → 0 < l.length
  | 0, k, l, h => by rw [← Except.ok.inj h]; exact Nat.succ_pos _
  | f + 1, k, l, h => by
    rw [P.scan] at h
    split at h
    · rw [← Except.ok.inj h]; exact Nat.succ_pos _
    · split at h
      · exact scan_ne f _ l h
      · split at h
        · exact scan_ne f _ l h
        · split at h
          · cases h
          · split at h
            · cases h
            · rw [← Except.ok.inj h]
              exact Nat.succ_pos _
theorem scanAll_ne {b : ByteArray} {l : List P.Tok} (h : P.scanAll b = .ok l) : 0 < l.length := by
  unfold P.scanAll at h
  split at h
  · cases h
  · exact scan_ne _ _ _ h
theorem all_ok {b : ByteArray} {l : List P.Tok} (h : P.scanAll b = .ok l) (hb : b.size ≤ 281474976710656) (w : World) :
    Calls Tryd.prog 12 #[.string b] w fun e w' => ∃ g cap, e = .returned (.tuple #[.slice (some ⟨g, 0, none⟩) l.length cap, .nilIface]) ∧ w.heap.size ≤ g ∧ l.length ≤ cap ∧ Toks w' g l ∧ Below w.heap.size w w' := by
  refine (all_any b hb w).mono ?_
  rw [h]
  rintro e w' ⟨⟨v, rfl, hown⟩, hb⟩
  obtain ⟨g, cap, rfl, h1, h2, h3, h4⟩ := slice_of hown (scanAll_ne h)
  exact ⟨g, cap, rfl, h1, h2, h4, hb⟩
theorem all_bad {b : ByteArray} {k er : Nat} (h : P.scanAll b = .error (k, er)) (hb : b.size ≤ 281474976710656) (w : World) :
    Calls Tryd.prog 12 #[.string b] w fun e w' => ∃ g, e = .returned (.tuple #[.slice none 0 0, .iface 45 (.pointer (some ⟨g, 0, none⟩))]) ∧ FaultAt w' g k er ∧ Below w.heap.size w w' := by
  refine (all_any b hb w).mono ?_
  rw [h]
  rintro e w' ⟨⟨g, rfl, _, hf⟩, hb⟩
  exact ⟨g, rfl, hf, hb⟩
set_option maxRecDepth 100000 in
set_option maxHeartbeats 2000000 in
theorem shown_any (w : World) (hg : Handle w) : Calls Tryd.prog 11 #[] w fun e w' => e = .returned (.bool true) ∧ Below w.heap.size w w' := by
  have HG := Lib.hid hg
  clear hg
  go_enter Tryd.func11, Tryd.ntmps11
  go_wp2_with fail
  refine (all_ok scan1 (by decide) _).mono ?_
  rintro e w1 ⟨g1, cap1, rfl, _, _, ht1, hb1⟩
  have HT1 := Lib.hid ht1
  have HB1 := Lib.hid hb1
  clear ht1 hb1
  rw [show toks1.length = 6 from rfl]
  go_wp2_with fail
  refine (all_bad scan2 (by decide) _).mono ?_
  rintro e w2 ⟨g2, rfl, hf2, hb2⟩
  have HF2 := Lib.hid hf2
  have HT2 := Lib.hid (HT1.out.on hb2)
  have HB2 := Lib.hid (HB1.out.trans (hb2.mono HB1.out.size))
  clear hf2 hb2
  go_wp2_with fail
  refine (fault_at g2 2 3 _ HF2.out (HG.out.on HB2.out)).mono ?_
  rintro e w3 ⟨rfl, hb3⟩
  have HT3 := Lib.hid (HT2.out.on hb3)
  have HB3 := Lib.hid (HB2.out.trans (hb3.mono HB2.out.size))
  clear hb3
  have c00 : w3.cell? ⟨g1, 0, none⟩ = some (.int .i64 2) := HT3.out.c 0 _ rfl 0 _ rfl
  have c01 : w3.cell? ⟨g1, 1, none⟩ = some (.int .i64 0) := HT3.out.c 0 _ rfl 1 _ rfl
  have c02 : w3.cell? ⟨g1, 2, none⟩ = some (.string ⟨#[109, 117]⟩) := HT3.out.c 0 _ rfl 2 _ rfl
  have c03 : w3.cell? ⟨g1, 3, none⟩ = some (.int .i64 0) := HT3.out.c 0 _ rfl 3 _ rfl
  have c10 : w3.cell? ⟨g1, 4, none⟩ = some (.int .i64 3) := HT3.out.c 1 _ rfl 0 _ rfl
  have c11 : w3.cell? ⟨g1, 5, none⟩ = some (.int .i64 3) := HT3.out.c 1 _ rfl 1 _ rfl
  have c12 : w3.cell? ⟨g1, 6, none⟩ = some (.string ⟨#[88, 49]⟩) := HT3.out.c 1 _ rfl 2 _ rfl
  have c13 : w3.cell? ⟨g1, 7, none⟩ = some (.int .i64 0) := HT3.out.c 1 _ rfl 3 _ rfl
  have c20 : w3.cell? ⟨g1, 8, none⟩ = some (.int .i64 5) := HT3.out.c 2 _ rfl 0 _ rfl
  have c21 : w3.cell? ⟨g1, 9, none⟩ = some (.int .i64 5) := HT3.out.c 2 _ rfl 1 _ rfl
  have c22 : w3.cell? ⟨g1, 10, none⟩ = some (.string ⟨#[46]⟩) := HT3.out.c 2 _ rfl 2 _ rfl
  have c23 : w3.cell? ⟨g1, 11, none⟩ = some (.int .i64 0) := HT3.out.c 2 _ rfl 3 _ rfl
  have c40 : w3.cell? ⟨g1, 16, none⟩ = some (.int .i64 4) := HT3.out.c 4 _ rfl 0 _ rfl
  have c41 : w3.cell? ⟨g1, 17, none⟩ = some (.int .i64 9) := HT3.out.c 4 _ rfl 1 _ rfl
  have c42 : w3.cell? ⟨g1, 18, none⟩ = some (.string ⟨#[49, 50]⟩) := HT3.out.c 4 _ rfl 2 _ rfl
  have c43 : w3.cell? ⟨g1, 19, none⟩ = some (.int .i64 12) := HT3.out.c 4 _ rfl 3 _ rfl
  have c50 : w3.cell? ⟨g1, 20, none⟩ = some (.int .i64 0) := HT3.out.c 5 _ rfl 0 _ rfl
  have c51 : w3.cell? ⟨g1, 21, none⟩ = some (.int .i64 11) := HT3.out.c 5 _ rfl 1 _ rfl
  have c52 : w3.cell? ⟨g1, 22, none⟩ = some (.string ⟨#[]⟩) := HT3.out.c 5 _ rfl 2 _ rfl
  have c53 : w3.cell? ⟨g1, 23, none⟩ = some (.int .i64 0) := HT3.out.c 5 _ rfl 3 _ rfl
  go_wp2_with fail
  go_ret
  exact ⟨rfl, HB3.out⟩
end W
end Go.Proofs.YtbimjejidlohnaaDoor
