/- The token that begins at a place: the program's. -/
import Derived.Test.YtbimjejidlohnaaDoorToks
import Derived.Laws.DeepStrings4
namespace Go.Proofs.YtbimjejidlohnaaDoor
open Go.RowKit
namespace W
theorem sl_any (b : ByteArray) (i j : Nat) (h1 : i ≤ j) (h2 : j ≤ b.size) (x y : Int) (hx : x = (i : Int)) (hy : y = (j : Int)) (w : World) : (Instr.slice 9 (.string b) (some (.int .i64 x)) (some (.int .i64 y)) none).run Tryd.prog w = .ok (.string (b.extract i j)) w := by
  subst hx hy
  rw [run_slice_string_if w 9 b .i64 .i64 (i : Int) (j : Int) Tryd.underlying9, if_pos ⟨Int.natCast_nonneg _, by omega⟩, if_pos ⟨Int.natCast_nonneg _, by omega⟩]
  rfl

set_option maxRecDepth 100000 in
set_option maxHeartbeats 4000000 in
theorem next_any (b : ByteArray) (k : Nat) (hk : k < b.size) (hb : b.size ≤ 281474976710656) (w : World) :
    Calls Tryd.prog 19 #[.string b, .int .i64 (k : Int)] w fun e w' => e = .returned (oneV (P.one b k)) ∧ Below w.heap.size w w' := by
  have ix := ix_byte b k hk
  unfold P.one
  by_cases h1 : P.byt b k = 10
  · rw [if_pos h1]
    rw [h1] at ix
    have hsl := sl_any b k (k + 1) (Nat.le_succ _) hk (k : Int) ((k : Int) + 1) rfl rfl
    clear h1
    go_enter Tryd.func19, Tryd.ntmps19
    go_wp2_with (first | (go_at_call 22; refine (isSmall _ _).mono ?_; rintro e w' ⟨rfl, rfl⟩) | (go_at_call 24; refine (isCapital _ _).mono ?_; rintro e w' ⟨rfl, rfl⟩) | (go_at_call 25; refine (isDigit _ _).mono ?_; rintro e w' ⟨rfl, rfl⟩))
    exact bodyPost_ret (results_tok Tryd.results19 _ _ w.heap.size ⟨1, k, b.extract k (k + 1), 0⟩ rfl (TokAt.new w ⟨1, k, b.extract k (k + 1), 0⟩)) rfl ⟨rfl, (Below.refl _ _).alloc (Nat.le_refl _) _⟩
  · rw [if_neg h1]
    have e1 : (((P.byt b k : Nat) : Int) == 10) = false := by rw [beq_eq_false_iff_ne]; omega
    cases h2 : P.small (P.byt b k) with
    | true =>
      rw [if_pos rfl]
      by_cases h8 : 8 < P.ext P.inner b k - k
      · rw [if_pos h8]
        have HE := Lib.hid (show nameE b 2 k = .error 5 from if_pos h8)
        clear h8
        go_enter Tryd.func19, Tryd.ntmps19
        go_wp2_with (first | (go_at_call 22; refine (isSmall _ _).mono ?_; rintro e w' ⟨rfl, rfl⟩) | (go_at_call 24; refine (isCapital _ _).mono ?_; rintro e w' ⟨rfl, rfl⟩) | (go_at_call 25; refine (isDigit _ _).mono ?_; rintro e w' ⟨rfl, rfl⟩) | (go_at_call 23; refine (name_any b 2 k hk hb _).mono ?_; rw [HE.out]; rintro e w' ⟨rfl, hb⟩; have HH := Lib.hid ((TokAt.new w nil).on hb); have HB := Lib.hid (show Below w.heap.size w w' from ((Below.refl _ _).alloc (Nat.le_refl _) _).trans (hb.mono (by simp))); have c0 := HH.out.c0; have c1 := HH.out.c1; have c2 := HH.out.c2; have c3 := HH.out.c3; have f0 := HH.out.free 0; have f1 := HH.out.free 1; have f2 := HH.out.free 2; have f3 := HH.out.free 3; clear hb; simp only [oneV, tokV, nil]))
        exact bodyPost_ret (results_tok Tryd.results19 _ _ w.heap.size nil rfl (HH.out.store nil)) rfl ⟨rfl, below_tok HB.out (Nat.le_refl _) nil⟩
      · rw [if_neg h8]
        have HE := Lib.hid (show nameE b 2 k = .ok ⟨2, k, b.extract k (P.ext P.inner b k), 0⟩ from if_neg h8)
        clear h8
        go_enter Tryd.func19, Tryd.ntmps19
        go_wp2_with (first | (go_at_call 22; refine (isSmall _ _).mono ?_; rintro e w' ⟨rfl, rfl⟩) | (go_at_call 24; refine (isCapital _ _).mono ?_; rintro e w' ⟨rfl, rfl⟩) | (go_at_call 25; refine (isDigit _ _).mono ?_; rintro e w' ⟨rfl, rfl⟩) | (go_at_call 23; refine (name_any b 2 k hk hb _).mono ?_; rw [HE.out]; rintro e w' ⟨rfl, hb⟩; have HH := Lib.hid ((TokAt.new w nil).on hb); have HB := Lib.hid (show Below w.heap.size w w' from ((Below.refl _ _).alloc (Nat.le_refl _) _).trans (hb.mono (by simp))); have c0 := HH.out.c0; have c1 := HH.out.c1; have c2 := HH.out.c2; have c3 := HH.out.c3; have f0 := HH.out.free 0; have f1 := HH.out.free 1; have f2 := HH.out.free 2; have f3 := HH.out.free 3; clear hb; simp only [oneV, tokV]))
        exact bodyPost_ret (results_tok Tryd.results19 _ _ w.heap.size ⟨2, k, b.extract k (P.ext P.inner b k), 0⟩ rfl (HH.out.store ⟨2, k, b.extract k (P.ext P.inner b k), 0⟩)) rfl ⟨rfl, below_tok HB.out (Nat.le_refl _) ⟨2, k, b.extract k (P.ext P.inner b k), 0⟩⟩
    | false =>
      rw [if_neg (by decide)]
      cases h3 : P.capital (P.byt b k) with
      | true =>
        rw [if_pos rfl]
        by_cases h8 : 8 < P.ext P.inner b k - k
        · rw [if_pos h8]
          have HE := Lib.hid (show nameE b 3 k = .error 5 from if_pos h8)
          clear h8
          go_enter Tryd.func19, Tryd.ntmps19
          go_wp2_with (first | (go_at_call 22; refine (isSmall _ _).mono ?_; rintro e w' ⟨rfl, rfl⟩) | (go_at_call 24; refine (isCapital _ _).mono ?_; rintro e w' ⟨rfl, rfl⟩) | (go_at_call 25; refine (isDigit _ _).mono ?_; rintro e w' ⟨rfl, rfl⟩) | (go_at_call 23; refine (name_any b 3 k hk hb _).mono ?_; rw [HE.out]; rintro e w' ⟨rfl, hb⟩; have HH := Lib.hid ((TokAt.new w nil).on hb); have HB := Lib.hid (show Below w.heap.size w w' from ((Below.refl _ _).alloc (Nat.le_refl _) _).trans (hb.mono (by simp))); have c0 := HH.out.c0; have c1 := HH.out.c1; have c2 := HH.out.c2; have c3 := HH.out.c3; have f0 := HH.out.free 0; have f1 := HH.out.free 1; have f2 := HH.out.free 2; have f3 := HH.out.free 3; clear hb; simp only [oneV, tokV, nil]))
          exact bodyPost_ret (results_tok Tryd.results19 _ _ w.heap.size nil rfl (HH.out.store nil)) rfl ⟨rfl, below_tok HB.out (Nat.le_refl _) nil⟩
        · rw [if_neg h8]
          have HE := Lib.hid (show nameE b 3 k = .ok ⟨3, k, b.extract k (P.ext P.inner b k), 0⟩ from if_neg h8)
          clear h8
          go_enter Tryd.func19, Tryd.ntmps19
          go_wp2_with (first | (go_at_call 22; refine (isSmall _ _).mono ?_; rintro e w' ⟨rfl, rfl⟩) | (go_at_call 24; refine (isCapital _ _).mono ?_; rintro e w' ⟨rfl, rfl⟩) | (go_at_call 25; refine (isDigit _ _).mono ?_; rintro e w' ⟨rfl, rfl⟩) | (go_at_call 23; refine (name_any b 3 k hk hb _).mono ?_; rw [HE.out]; rintro e w' ⟨rfl, hb⟩; have HH := Lib.hid ((TokAt.new w nil).on hb); have HB := Lib.hid (show Below w.heap.size w w' from ((Below.refl _ _).alloc (Nat.le_refl _) _).trans (hb.mono (by simp))); have c0 := HH.out.c0; have c1 := HH.out.c1; have c2 := HH.out.c2; have c3 := HH.out.c3; have f0 := HH.out.free 0; have f1 := HH.out.free 1; have f2 := HH.out.free 2; have f3 := HH.out.free 3; clear hb; simp only [oneV, tokV]))
          exact bodyPost_ret (results_tok Tryd.results19 _ _ w.heap.size ⟨3, k, b.extract k (P.ext P.inner b k), 0⟩ rfl (HH.out.store ⟨3, k, b.extract k (P.ext P.inner b k), 0⟩)) rfl ⟨rfl, below_tok HB.out (Nat.le_refl _) ⟨3, k, b.extract k (P.ext P.inner b k), 0⟩⟩
      | false =>
        rw [if_neg (by decide)]
        cases h4 : P.digit (P.byt b k) with
        | true =>
          rw [if_pos rfl]
          by_cases h8 : 1 < P.ext P.digit b k - k ∧ P.byt b k = 48 ∨ 9999 < P.num b k (P.ext P.digit b k)
          · rw [if_pos h8]
            have HE := Lib.hid (show numberE b k = .error 4 from if_pos h8)
            clear h8
            go_enter Tryd.func19, Tryd.ntmps19
            go_wp2_with (first | (go_at_call 22; refine (isSmall _ _).mono ?_; rintro e w' ⟨rfl, rfl⟩) | (go_at_call 24; refine (isCapital _ _).mono ?_; rintro e w' ⟨rfl, rfl⟩) | (go_at_call 25; refine (isDigit _ _).mono ?_; rintro e w' ⟨rfl, rfl⟩) | (go_at_call 26; refine (number_any b k hk h4 hb _).mono ?_; rw [HE.out]; rintro e w' ⟨rfl, hb⟩; have HH := Lib.hid ((TokAt.new w nil).on hb); have HB := Lib.hid (show Below w.heap.size w w' from ((Below.refl _ _).alloc (Nat.le_refl _) _).trans (hb.mono (by simp))); have c0 := HH.out.c0; have c1 := HH.out.c1; have c2 := HH.out.c2; have c3 := HH.out.c3; have f0 := HH.out.free 0; have f1 := HH.out.free 1; have f2 := HH.out.free 2; have f3 := HH.out.free 3; clear hb; simp only [oneV, tokV, nil]))
            exact bodyPost_ret (results_tok Tryd.results19 _ _ w.heap.size nil rfl (HH.out.store nil)) rfl ⟨rfl, below_tok HB.out (Nat.le_refl _) nil⟩
          · rw [if_neg h8]
            have HE := Lib.hid (show numberE b k = .ok ⟨4, k, b.extract k (P.ext P.digit b k), P.num b k (P.ext P.digit b k)⟩ from if_neg h8)
            clear h8
            go_enter Tryd.func19, Tryd.ntmps19
            go_wp2_with (first | (go_at_call 22; refine (isSmall _ _).mono ?_; rintro e w' ⟨rfl, rfl⟩) | (go_at_call 24; refine (isCapital _ _).mono ?_; rintro e w' ⟨rfl, rfl⟩) | (go_at_call 25; refine (isDigit _ _).mono ?_; rintro e w' ⟨rfl, rfl⟩) | (go_at_call 26; refine (number_any b k hk h4 hb _).mono ?_; rw [HE.out]; rintro e w' ⟨rfl, hb⟩; have HH := Lib.hid ((TokAt.new w nil).on hb); have HB := Lib.hid (show Below w.heap.size w w' from ((Below.refl _ _).alloc (Nat.le_refl _) _).trans (hb.mono (by simp))); have c0 := HH.out.c0; have c1 := HH.out.c1; have c2 := HH.out.c2; have c3 := HH.out.c3; have f0 := HH.out.free 0; have f1 := HH.out.free 1; have f2 := HH.out.free 2; have f3 := HH.out.free 3; clear hb; simp only [oneV, tokV]))
            exact bodyPost_ret (results_tok Tryd.results19 _ _ w.heap.size ⟨4, k, b.extract k (P.ext P.digit b k), P.num b k (P.ext P.digit b k)⟩ rfl (HH.out.store ⟨4, k, b.extract k (P.ext P.digit b k), P.num b k (P.ext P.digit b k)⟩)) rfl ⟨rfl, below_tok HB.out (Nat.le_refl _) ⟨4, k, b.extract k (P.ext P.digit b k), P.num b k (P.ext P.digit b k)⟩⟩
        | false =>
          rw [if_neg (by decide)]
          unfold P.sign
          have hsl := sl_any b k (k + 1) (Nat.le_succ _) hk (k : Int) ((k : Int) + 1) rfl rfl
          obtain ⟨c, hc⟩ : ∃ c, P.byt b k = c := ⟨_, rfl⟩
          rw [hc] at ix e1 h2 h3 h4 ⊢
          clear hc h1
          by_cases g1 : 33 ≤ c
          · have i1 : decide ((32 : Int) < (c : Int)) = true := decide_eq_true (by omega)
            have i2 : decide (32 < c) = true := decide_eq_true (by omega)
            have i3 : decide (33 ≤ c) = true := decide_eq_true g1
            rw [i3]
            by_cases g2 : c ≤ 126
            · have j1 : decide ((c : Int) ≤ 126) = true := decide_eq_true (by omega)
              have j2 : decide (c ≤ 126) = true := decide_eq_true g2
              rw [j2]
              by_cases g3 : c = 95
              · have k1 : ((c : Int) != 95) = false := by rw [bne_eq_false_iff_eq]; omega
                have k2 : (c != 95) = false := by rw [bne_eq_false_iff_eq]; exact g3
                rw [k2, if_neg (by decide)]
                clear g1 g2 g3
                go_enter Tryd.func19, Tryd.ntmps19
                go_wp2_with (first | (go_at_call 22; refine (isSmall _ _).mono ?_; rintro e w' ⟨rfl, rfl⟩) | (go_at_call 24; refine (isCapital _ _).mono ?_; rintro e w' ⟨rfl, rfl⟩) | (go_at_call 25; refine (isDigit _ _).mono ?_; rintro e w' ⟨rfl, rfl⟩))
                exact bodyPost_ret (results_tok Tryd.results19 _ _ w.heap.size nil rfl (TokAt.new w nil)) rfl ⟨rfl, (Below.refl _ _).alloc (Nat.le_refl _) _⟩
              · have k1 : ((c : Int) != 95) = true := by rw [bne_iff_ne]; omega
                have k2 : (c != 95) = true := by rw [bne_iff_ne]; exact g3
                rw [k2, if_pos (by decide)]
                clear g1 g2 g3
                go_enter Tryd.func19, Tryd.ntmps19
                go_wp2_with (first | (go_at_call 22; refine (isSmall _ _).mono ?_; rintro e w' ⟨rfl, rfl⟩) | (go_at_call 24; refine (isCapital _ _).mono ?_; rintro e w' ⟨rfl, rfl⟩) | (go_at_call 25; refine (isDigit _ _).mono ?_; rintro e w' ⟨rfl, rfl⟩))
                exact bodyPost_ret (results_tok Tryd.results19 _ _ w.heap.size ⟨5, k, b.extract k (k + 1), 0⟩ rfl (TokAt.new w ⟨5, k, b.extract k (k + 1), 0⟩)) rfl ⟨rfl, (Below.refl _ _).alloc (Nat.le_refl _) _⟩
            · have j1 : decide ((c : Int) ≤ 126) = false := decide_eq_false (by omega)
              have j2 : decide (c ≤ 126) = false := decide_eq_false g2
              rw [j2, if_neg (by simp)]
              clear g1 g2
              go_enter Tryd.func19, Tryd.ntmps19
              go_wp2_with (first | (go_at_call 22; refine (isSmall _ _).mono ?_; rintro e w' ⟨rfl, rfl⟩) | (go_at_call 24; refine (isCapital _ _).mono ?_; rintro e w' ⟨rfl, rfl⟩) | (go_at_call 25; refine (isDigit _ _).mono ?_; rintro e w' ⟨rfl, rfl⟩))
              exact bodyPost_ret (results_tok Tryd.results19 _ _ w.heap.size nil rfl (TokAt.new w nil)) rfl ⟨rfl, (Below.refl _ _).alloc (Nat.le_refl _) _⟩
          · have i1 : decide ((32 : Int) < (c : Int)) = false := decide_eq_false (by omega)
            have i2 : decide (32 < c) = false := decide_eq_false (by omega)
            have i3 : decide (33 ≤ c) = false := decide_eq_false g1
            rw [i3, if_neg (by simp)]
            clear g1
            go_enter Tryd.func19, Tryd.ntmps19
            go_wp2_with (first | (go_at_call 22; refine (isSmall _ _).mono ?_; rintro e w' ⟨rfl, rfl⟩) | (go_at_call 24; refine (isCapital _ _).mono ?_; rintro e w' ⟨rfl, rfl⟩) | (go_at_call 25; refine (isDigit _ _).mono ?_; rintro e w' ⟨rfl, rfl⟩))
            exact bodyPost_ret (results_tok Tryd.results19 _ _ w.heap.size nil rfl (TokAt.new w nil)) rfl ⟨rfl, (Below.refl _ _).alloc (Nat.le_refl _) _⟩
end W
end Go.Proofs.YtbimjejidlohnaaDoor
