/- The token that begins at a place, in the program and in the document's answer. -/
import Derived.Test.YtbimjejidlohnaaDoorNums
namespace Go.Proofs.YtbimjejidlohnaaDoor
open Go.RowKit
namespace W
/-- A token as the program has it. -/
def tokV (t : P.Tok) : Value := .agg #[.int .i64 ((t.kind : Nat) : Int), .int .i64 ((t.place : Nat) : Int), .string t.text, .int .i64 ((t.number : Nat) : Int)]
/-- The token that is nothing. -/
def nil : P.Tok := ⟨0, 0, ByteArray.empty, 0⟩
/-- What a call hands back that tells one token, or why there is none. -/
def oneV : Except Nat P.Tok → Value
  | .ok t => .tuple #[tokV t, .int .i64 0]
  | .error e => .tuple #[tokV nil, .int .i64 ((e : Nat) : Int)]
def nameE (b : ByteArray) (kind k : Nat) : Except Nat P.Tok := if 8 < P.ext P.inner b k - k then .error 5 else .ok ⟨kind, k, b.extract k (P.ext P.inner b k), 0⟩
def numberE (b : ByteArray) (k : Nat) : Except Nat P.Tok :=
  if 1 < P.ext P.digit b k - k ∧ P.byt b k = 48 ∨ 9999 < P.num b k (P.ext P.digit b k) then .error 4 else .ok ⟨4, k, b.extract k (P.ext P.digit b k), P.num b k (P.ext P.digit b k)⟩
def tokCells (t : P.Tok) : Array Value := #[.int .i64 ((t.kind : Nat) : Int), .int .i64 ((t.place : Nat) : Int), .string t.text, .int .i64 ((t.number : Nat) : Int)]
/-- Block g holds a token. -/
def TokAt (w : World) (g : Nat) (t : P.Tok) : Prop := w.heap[g]? = some (.cells (tokCells t) 35 (0, 0))
theorem TokAt.new (w : World) (t : P.Tok) : TokAt (w.alloc (.cells (tokCells t) 35)) w.heap.size t := heap_alloc_new w _
theorem TokAt.on {w w' : World} {g : Nat} {t : P.Tok} (h : TokAt w g t) (hb : Below w.heap.size w w') : TokAt w' g t := by unfold TokAt; rw [hb.block g (lt_of_block h)]; exact h
theorem TokAt.c0 {w : World} {g : Nat} {t : P.Tok} (h : TokAt w g t) : w.cell? ⟨g, 0, none⟩ = some (.int .i64 ((t.kind : Nat) : Int)) := by rw [cell_of_row w g 0 _ _ (0, 0) h]; rfl
theorem TokAt.c1 {w : World} {g : Nat} {t : P.Tok} (h : TokAt w g t) : w.cell? ⟨g, 1, none⟩ = some (.int .i64 ((t.place : Nat) : Int)) := by rw [cell_of_row w g 1 _ _ (0, 0) h]; rfl
theorem TokAt.c2 {w : World} {g : Nat} {t : P.Tok} (h : TokAt w g t) : w.cell? ⟨g, 2, none⟩ = some (.string t.text) := by rw [cell_of_row w g 2 _ _ (0, 0) h]; rfl
theorem TokAt.c3 {w : World} {g : Nat} {t : P.Tok} (h : TokAt w g t) : w.cell? ⟨g, 3, none⟩ = some (.int .i64 ((t.number : Nat) : Int)) := by rw [cell_of_row w g 3 _ _ (0, 0) h]; rfl
theorem TokAt.free {w : World} {g : Nat} {t : P.Tok} (h : TokAt w g t) (j : Nat) : w.frozen? ⟨g, j, none⟩ = false := frozen_of_row w g j _ _ h
theorem TokAt.store {w : World} {g : Nat} {t : P.Tok} (h : TokAt w g t) (r : P.Tok) : TokAt ((((w.setCell ⟨g, 0, none⟩ (.int .i64 ((r.kind : Nat) : Int))).setCell ⟨g, 1, none⟩ (.int .i64 ((r.place : Nat) : Int))).setCell ⟨g, 2, none⟩ (.string r.text)).setCell ⟨g, 3, none⟩ (.int .i64 ((r.number : Nat) : Int))) g r := by
  unfold TokAt at h ⊢
  have h0 := heap_setCell_same w g 0 _ _ (.int .i64 ((r.kind : Nat) : Int)) h
  have h1 := heap_setCell_same _ g 1 _ _ (.int .i64 ((r.place : Nat) : Int)) h0
  have h2 := heap_setCell_same _ g 2 _ _ (.string r.text) h1
  have h3 := heap_setCell_same _ g 3 _ _ (.int .i64 ((r.number : Nat) : Int)) h2
  rw [h3]
  rfl
theorem tok_under : ∃ fs, Tryd.prog.underlying 35 = some (.struct fs) := ⟨_, Tryd.underlying35⟩
theorem tok_size (t : P.Tok) : (Tryd.prog.info? 35).map (·.size) = some (tokCells t).size := by
  show _ = some 4
  kernel_rfl
theorem results_tok {fn : Func} {p u : Tmp} (h : fn.results = #[.cell p 35, .tmp u]) (tmps : Array Value) (w : World) (g : Nat) (t : P.Tok) (hp : tmps.getD p undef = .pointer (some ⟨g, 0, none⟩)) (hg : TokAt w g t) :
    (results fn tmps).run Tryd.prog w = .ok (.tuple #[tokV t, tmps.getD u undef]) w := by
  obtain ⟨fs, hu⟩ := tok_under
  rw [results_cell_tmp h, hp]
  have hl := run_loadVar_row (P := Tryd.prog) w g 35 35 (tokCells t) (0, 0) _ hg hu rfl (tok_size t)
  simp [asAddr, Result.andThen, hl]
  rfl
theorem below_tok {w0 w : World} {B g : Nat} (h : Below B w0 w) (hb : B ≤ g) (r : P.Tok) : Below B w0 ((((w.setCell ⟨g, 0, none⟩ (.int .i64 ((r.kind : Nat) : Int))).setCell ⟨g, 1, none⟩ (.int .i64 ((r.place : Nat) : Int))).setCell ⟨g, 2, none⟩ (.string r.text)).setCell ⟨g, 3, none⟩ (.int .i64 ((r.number : Nat) : Int))) :=
  (((h.setCell hb _).setCell hb _).setCell hb _).setCell hb _
set_option maxRecDepth 100000 in
set_option maxHeartbeats 2000000 in
theorem name_any (b : ByteArray) (kind k : Nat) (hk : k < b.size) (hb : b.size ≤ 281474976710656) (w : World) :
    Calls Tryd.prog 23 #[.int .i64 (kind : Int), .string b, .int .i64 (k : Int)] w fun e w' => e = .returned (oneV (nameE b kind k)) ∧ Below w.heap.size w w' := by
  have hge := P.ext_ge P.inner b k
  have hle := P.ext_le (p := P.inner) (b := b) (k := k) (by omega)
  unfold nameE
  obtain ⟨m, hm⟩ : ∃ m, P.ext P.inner b k = m := ⟨_, rfl⟩
  have HM := Lib.hid hm
  rw [hm] at hge hle ⊢
  clear hm
  have hm0 : (0 : Int) ≤ (m : Int) := Int.natCast_nonneg _
  have hk0 : (0 : Int) ≤ (k : Int) := Int.natCast_nonneg _
  go_enter Tryd.func23, Tryd.ntmps23
  by_cases h : 8 < m - k
  · rw [if_pos h]
    have hd : decide (8 < (m : Int) - (k : Int)) = true := decide_eq_true (by omega)
    go_wp2_with (go_at_call 17; refine (stretch_inner _ _ (by omega) hb _).mono ?_; rw [HM.out]; rintro e w' ⟨rfl, rfl⟩)
    exact bodyPost_ret (results_tok Tryd.results23 _ _ w.heap.size nil rfl (TokAt.new w nil)) rfl ⟨rfl, (Below.refl _ _).alloc (Nat.le_refl _) _⟩
  · rw [if_neg h]
    have hd : decide (8 < (m : Int) - (k : Int)) = false := decide_eq_false (by omega)
    go_wp2_with (go_at_call 17; refine (stretch_inner _ _ (by omega) hb _).mono ?_; rw [HM.out]; rintro e w' ⟨rfl, rfl⟩)
    exact bodyPost_ret (results_tok Tryd.results23 _ _ w.heap.size ⟨kind, k, b.extract k m, 0⟩ rfl (TokAt.new w ⟨kind, k, b.extract k m, 0⟩)) rfl ⟨rfl, (Below.refl _ _).alloc (Nat.le_refl _) _⟩
set_option maxRecDepth 100000 in
set_option maxHeartbeats 2000000 in
theorem number_any (b : ByteArray) (k : Nat) (hk : k < b.size) (hp : P.digit (P.byt b k) = true) (hb : b.size ≤ 281474976710656) (w : World) :
    Calls Tryd.prog 26 #[.string b, .int .i64 (k : Int)] w fun e w' => e = .returned (oneV (numberE b k)) ∧ Below w.heap.size w w' := by
  have hgt := P.ext_gt hk hp
  have hge := Nat.le_of_lt hgt
  have hle := P.ext_le (p := P.digit) (b := b) (k := k) (by omega)
  have HG := Lib.hid (fun j (h1 : k ≤ j) (h2 : j < P.ext P.digit b k) => P.ext_digit h1 h2)
  unfold numberE
  clear hp
  obtain ⟨m, hm⟩ : ∃ m, P.ext P.digit b k = m := ⟨_, rfl⟩
  have HM := Lib.hid hm
  rw [hm] at hgt hge hle HG ⊢
  clear hm
  have hm0 : (0 : Int) ≤ (m : Int) := Int.natCast_nonneg _
  have hk0 : (0 : Int) ≤ (k : Int) := Int.natCast_nonneg _
  obtain ⟨d, hd⟩ : ∃ d, b.extract k m = d := ⟨_, rfl⟩
  have hs : d.size = m - k := by rw [← hd]; exact P.extract_size hle
  have HDD := Lib.hid (show ∀ j, j < d.size → 48 ≤ P.byt d j ∧ P.byt d j ≤ 57 by
    intro j hj
    rw [← hd, P.byt_extract hle (by omega)]
    exact HG.out (k + j) (by omega) (by omega))
  have HN := Lib.hid (show P.dec d d.size 0 0 = P.num b k m by
    rw [hs, ← hd, P.dec_extract hle _ _ _ (by omega)]
    rfl)
  have IX := Lib.hid (ix_byte d 0 (by omega))
  have h00 : P.byt d 0 = P.byt b k := by rw [← hd, P.byt_extract hle (by omega)]; rfl
  rw [h00] at IX
  obtain ⟨c, hc⟩ : ∃ c, P.byt b k = c := ⟨_, rfl⟩
  rw [hc] at IX ⊢
  obtain ⟨x, hx⟩ : ∃ x, P.num b k m = x := ⟨_, rfl⟩
  rw [hx] at HN ⊢
  rw [hd]
  have HD := Lib.hid hd
  clear h00 hc hx hd HG
  have hbd : d.size ≤ 281474976710656 := by omega
  have HS := Lib.hid hs
  have hds : 0 < d.size := by omega
  clear hs
  by_cases h1 : 1 < d.size
  · have g1 : decide (1 < d.size) = true := decide_eq_true h1
    have g2 : decide ((1 : Int) < (d.size : Int)) = true := decide_eq_true (by omega)
    by_cases h2 : c = 48
    · have h5 : ((c : Int) == 48) = true := by rw [beq_iff_eq]; omega
      have h6 : (c == 48) = true := by rw [beq_iff_eq]; omega
      rw [if_pos (by have := HS.out; omega)]
      go_enter Tryd.func26, Tryd.ntmps26
      go_wp2_with fail
      refine (stretch_digit _ _ (by omega) hb _).mono ?_
      rw [HM.out]
      rintro e w' ⟨rfl, rfl⟩
      go_wp2_with fail
      rw [HD.out]
      refine (valueOf_any d HDD.out hbd _).mono ?_
      rintro e w' ⟨⟨v, rfl, hv1, hv2⟩, rfl⟩
      rw [HN.out] at hv1 hv2
      have hv0 : (0 : Int) ≤ (v : Int) := Int.natCast_nonneg _
      have ix0 : ∀ w, (Instr.index 9 (.string d) (.int .i64 0)).run Tryd.prog w = .ok (.int .u8 ((c : Nat) : Int)) w := IX.out
      clear hv1 hv2
      go_wp2_with fail
      exact bodyPost_ret (results_tok Tryd.results26 _ _ w.heap.size nil rfl (TokAt.new w nil)) rfl ⟨rfl, (Below.refl _ _).alloc (Nat.le_refl _) _⟩
    · have h5 : ((c : Int) == 48) = false := by rw [beq_eq_false_iff_ne]; omega
      have h6 : (c == 48) = false := by rw [beq_eq_false_iff_ne]; omega
      by_cases h3 : 9999 < x
      ·
        rw [if_pos (by have := HS.out; omega)]
        go_enter Tryd.func26, Tryd.ntmps26
        go_wp2_with fail
        refine (stretch_digit _ _ (by omega) hb _).mono ?_
        rw [HM.out]
        rintro e w' ⟨rfl, rfl⟩
        go_wp2_with fail
        rw [HD.out]
        refine (valueOf_any d HDD.out hbd _).mono ?_
        rintro e w' ⟨⟨v, rfl, hv1, hv2⟩, rfl⟩
        rw [HN.out] at hv1 hv2
        have hv0 : (0 : Int) ≤ (v : Int) := Int.natCast_nonneg _
        have ix0 : ∀ w, (Instr.index 9 (.string d) (.int .i64 0)).run Tryd.prog w = .ok (.int .u8 ((c : Nat) : Int)) w := IX.out
        have g3 : decide (9999 < v) = true := decide_eq_true (by omega)
        have g4 : decide ((9999 : Int) < (v : Int)) = true := decide_eq_true (by omega)
        clear hv1 hv2
        go_wp2_with fail
        exact bodyPost_ret (results_tok Tryd.results26 _ _ w.heap.size nil rfl (TokAt.new w nil)) rfl ⟨rfl, (Below.refl _ _).alloc (Nat.le_refl _) _⟩
      ·
        rw [if_neg (by have := HS.out; omega)]
        go_enter Tryd.func26, Tryd.ntmps26
        go_wp2_with fail
        refine (stretch_digit _ _ (by omega) hb _).mono ?_
        rw [HM.out]
        rintro e w' ⟨rfl, rfl⟩
        go_wp2_with fail
        rw [HD.out]
        refine (valueOf_any d HDD.out hbd _).mono ?_
        rintro e w' ⟨⟨v, rfl, hv1, hv2⟩, rfl⟩
        rw [HN.out] at hv1 hv2
        have hv0 : (0 : Int) ≤ (v : Int) := Int.natCast_nonneg _
        have ix0 : ∀ w, (Instr.index 9 (.string d) (.int .i64 0)).run Tryd.prog w = .ok (.int .u8 ((c : Nat) : Int)) w := IX.out
        obtain rfl : v = x := hv2 (by omega)
        have g3 : decide (9999 < v) = false := decide_eq_false (by omega)
        have g4 : decide ((9999 : Int) < (v : Int)) = false := decide_eq_false (by omega)
        clear hv1 hv2
        go_wp2_with fail
        exact bodyPost_ret (results_tok Tryd.results26 _ _ w.heap.size ⟨4, k, d, v⟩ rfl (TokAt.new w ⟨4, k, d, v⟩)) rfl ⟨rfl, (Below.refl _ _).alloc (Nat.le_refl _) _⟩
  · have g1 : decide (1 < d.size) = false := decide_eq_false h1
    have g2 : decide ((1 : Int) < (d.size : Int)) = false := decide_eq_false (by omega)
    by_cases h3 : 9999 < x
    ·
      rw [if_pos (by have := HS.out; omega)]
      go_enter Tryd.func26, Tryd.ntmps26
      go_wp2_with fail
      refine (stretch_digit _ _ (by omega) hb _).mono ?_
      rw [HM.out]
      rintro e w' ⟨rfl, rfl⟩
      go_wp2_with fail
      rw [HD.out]
      refine (valueOf_any d HDD.out hbd _).mono ?_
      rintro e w' ⟨⟨v, rfl, hv1, hv2⟩, rfl⟩
      rw [HN.out] at hv1 hv2
      have hv0 : (0 : Int) ≤ (v : Int) := Int.natCast_nonneg _
      have ix0 : ∀ w, (Instr.index 9 (.string d) (.int .i64 0)).run Tryd.prog w = .ok (.int .u8 ((c : Nat) : Int)) w := IX.out
      have g3 : decide (9999 < v) = true := decide_eq_true (by omega)
      have g4 : decide ((9999 : Int) < (v : Int)) = true := decide_eq_true (by omega)
      clear hv1 hv2
      go_wp2_with fail
      exact bodyPost_ret (results_tok Tryd.results26 _ _ w.heap.size nil rfl (TokAt.new w nil)) rfl ⟨rfl, (Below.refl _ _).alloc (Nat.le_refl _) _⟩
    ·
      rw [if_neg (by have := HS.out; omega)]
      go_enter Tryd.func26, Tryd.ntmps26
      go_wp2_with fail
      refine (stretch_digit _ _ (by omega) hb _).mono ?_
      rw [HM.out]
      rintro e w' ⟨rfl, rfl⟩
      go_wp2_with fail
      rw [HD.out]
      refine (valueOf_any d HDD.out hbd _).mono ?_
      rintro e w' ⟨⟨v, rfl, hv1, hv2⟩, rfl⟩
      rw [HN.out] at hv1 hv2
      have hv0 : (0 : Int) ≤ (v : Int) := Int.natCast_nonneg _
      have ix0 : ∀ w, (Instr.index 9 (.string d) (.int .i64 0)).run Tryd.prog w = .ok (.int .u8 ((c : Nat) : Int)) w := IX.out
      obtain rfl : v = x := hv2 (by omega)
      have g3 : decide (9999 < v) = false := decide_eq_false (by omega)
      have g4 : decide ((9999 : Int) < (v : Int)) = false := decide_eq_false (by omega)
      clear hv1 hv2
      go_wp2_with fail
      exact bodyPost_ret (results_tok Tryd.results26 _ _ w.heap.size ⟨4, k, d, v⟩ rfl (TokAt.new w ⟨4, k, d, v⟩)) rfl ⟨rfl, (Below.refl _ _).alloc (Nat.le_refl _) _⟩
end W
end Go.Proofs.YtbimjejidlohnaaDoor
