/- All the tokens of a text: the program's scanner. -/
import Derived.Test.YtbimjejidlohnaaDoorNext
import Derived.OwnWalk
import Derived.Laws.OwnMore
namespace Go.Proofs.YtbimjejidlohnaaDoor
open Go.RowKit
namespace W

/-- The cells of tokens in a row. -/
def flat (l : List P.Tok) : List Value := l.flatMap fun t => (tokCells t).toList
theorem flat_length (l : List P.Tok) : (flat l).length = l.length * 4 := by
  induction l with
  | nil => rfl
  | cons t l ih =>
    show ((tokCells t).toList ++ flat l).length = (l.length + 1) * 4
    rw [List.length_append, ih]
    show 4 + _ = _
    omega
theorem flat_snoc (l : List P.Tok) (t : P.Tok) : flat l ++ (tokCells t).toList = flat (l ++ [t]) := by unfold flat; simp
theorem tok_info : (Tryd.prog.info? 35).map (fun i => (i.zero, i.size, i.bytes)) = some (some (tokV nil), 4, 40) := by kernel_rfl
/-- A fault at a place. -/
def FaultAt (w : World) (g : Nat) (k e : Nat) : Prop := w.heap[g]? = some (.cells #[.int .i64 ((k : Nat) : Int), .int .i64 ((e : Nat) : Int)] 47 (0, 0))
def pre (acc : List P.Tok) : Except (Nat × Nat) (List P.Tok) → Except (Nat × Nat) (List P.Tok)
  | .error e => .error e
  | .ok l => .ok (acc ++ l)
/-- What a call hands back that has read a text. -/
def Read (base : Nat) (r : Except (Nat × Nat) (List P.Tok)) (w : World) (e : Ending) (w' : World) : Prop :=
  (match r with
  | .ok l => ∃ v, e = .returned (.tuple #[v, .nilIface]) ∧ w'.ownsRow base 35 4 v l.length (flat l)
  | .error (k, er) => ∃ g, e = .returned (.tuple #[.slice none 0 0, .iface 45 (.pointer (some ⟨g, 0, none⟩))]) ∧ base ≤ g ∧ FaultAt w' g k er) ∧ Below w.heap.size w w'
theorem one_err {b : ByteArray} {k e : Nat} (h : P.one b k = .error e) : 3 ≤ e ∧ e ≤ 5 := by
  unfold P.one at h
  split at h
  · cases h
  · split at h
    · split at h
      · have := Except.error.inj h; omega
      · cases h
    · split at h
      · split at h
        · have := Except.error.inj h; omega
        · cases h
      · split at h
        · split at h
          · have := Except.error.inj h; omega
          · cases h
        · split at h
          · cases h
          · have := Except.error.inj h; omega
theorem owns_on {B : Nat} {e : TypeId} {k : Nat} {v : Value} {n : Nat} {xs : List Value} {w w' : World} (h : w.ownsRow B e k v n xs) (hb : Below w.heap.size w w') : w'.ownsRow B e k v n xs := by
  refine ⟨h.1, ?_⟩
  rcases h.2 with h2 | ⟨g, cap, cur, h1, h2, h3, h4⟩
  · exact .inl h2
  · exact .inr ⟨g, cap, cur, h1, h2, by rw [hb.block g (lt_of_block h3)]; exact h3, h4⟩
theorem tok_news (w : World) (o : Obj) (t : P.Tok) : ∀ j u, (tokCells t).toList[j]? = some u → ((w.alloc o).alloc (.cells (tokCells t) 35)).cell? (({ block := w.heap.size + 1, off := 0 } : Addr).add j) = some u := by
  intro j u h
  have hn := heap_alloc2_new w o (.cells (tokCells t) 35)
  have he : (({ block := w.heap.size + 1, off := 0 } : Addr).add j) = ⟨w.heap.size + 1, j, none⟩ := by simp [Addr.add]; exact Eq.symm
  rw [he, cell_of_row _ _ j _ _ (0, 0) hn, ← h]
  simp
theorem tok_news1 (w : World) (t : P.Tok) : ∀ j u, (tokCells t).toList[j]? = some u → (w.alloc (.cells (tokCells t) 35)).cell? (({ block := w.heap.size, off := 0 } : Addr).add j) = some u := by
  intro j u h
  have hn := heap_alloc_new w (.cells (tokCells t) 35)
  have he : (({ block := w.heap.size, off := 0 } : Addr).add j) = ⟨w.heap.size, j, none⟩ := by simp [Addr.add]; exact Eq.symm
  rw [he, cell_of_row _ _ j _ _ (0, 0) hn, ← h]
  simp
theorem tok_one (t : P.Tok) : ∀ u ∈ (tokCells t).toList, u.oneCell' = true := by
  intro u h
  simp only [tokCells, List.mem_cons, List.not_mem_nil, or_false] at h
  rcases h with rfl | rfl | rfl | rfl <;> rfl
set_option maxRecDepth 100000 in
set_option maxHeartbeats 2000000 in
theorem all_small (b : ByteArray) (hb : b.size ≤ 262144) (w : World) :
    Calls Tryd.prog 12 #[.string b] w (Read w.heap.size (P.scanFrom b 0) w) := by
  obtain ⟨i0, hi, hz0, hz1, hz2⟩ := info_parts tok_info
  have HI1 := Lib.hid hi
  have HI2 := Lib.hid hz0
  have HI3 := Lib.hid hz1
  have HI4 := Lib.hid hz2
  clear hi hz0 hz1 hz2
  go_enter Tryd.func12, Tryd.ntmps12
  go_wp2_with fail
  go_loopw [4, 5] (fun v i wr => ∃ (k : Nat) (acc : List P.Tok), k ≤ b.size ∧ acc.length ≤ k ∧ i = .int .i64 k ∧ P.scanFrom b 0 = pre acc (P.scanFrom b k) ∧ wr.ownsRow w.heap.size 35 4 v acc.length (flat acc) ∧ Below w.heap.size w wr) (fun _ i _ => b.size - (intOf i).toNat)
  case atStart =>
    refine ⟨0, [], Nat.zero_le _, Nat.zero_le _, rfl, ?_, World.ownsRow_nil _ _ _ _, Below.refl _ _⟩
    cases P.scanFrom b 0 <;> rfl
  case round =>
    obtain ⟨k, acc, hk, hac, rfl, hr, ho, hw⟩ := hrel
    have HR := Lib.hid hr
    have HO := Lib.hid ho
    have HW := Lib.hid hw
    clear hr ho hw
    have hk0 : (0 : Int) ≤ (k : Int) := Int.natCast_nonneg _
    by_cases hlt : k < b.size
    · have hq : decide ((k : Int) < (b.size : Int)) = true := decide_eq_true (by omega)
      have ix := ix_byte b k hlt
      by_cases h32 : P.byt b k = 32
      · have HN := Lib.hid (P.scanFrom_blank hlt (.inl h32))
        rw [h32] at ix
        clear h32
        go_wp2_with fail
        go_roundw
        case rel => exact ⟨k + 1, acc, by omega, by omega, by go_num, by rw [HR.out, HN.out], HO.out, HW.out⟩
        case measure => simp [intOf]; omega
      · by_cases h9 : P.byt b k = 9
        · have HN := Lib.hid (P.scanFrom_blank hlt (.inr h9))
          rw [h9] at ix
          clear h9 h32
          go_wp2_with fail
          go_roundw
          case rel => exact ⟨k + 1, acc, by omega, by omega, by go_num, by rw [HR.out, HN.out], HO.out, HW.out⟩
          case measure => simp [intOf]; omega
        · by_cases h35 : P.byt b k = 35
          · have HN := Lib.hid (P.scanFrom_remark hlt h35)
            have hgt := P.ext_gt (p := P.remark) hlt (by rw [h35]; rfl)
            have hle := P.ext_le (p := P.remark) (b := b) (k := k) (by omega)
            rw [h35] at ix
            clear h35 h9 h32
            obtain ⟨m, hm⟩ : ∃ m, P.ext P.remark b k = m := ⟨_, rfl⟩
            have HM := Lib.hid hm
            rw [hm] at hgt hle
            clear hm
            go_wp2_with (go_at_call 17; refine (stretch_remark _ _ (by omega) (by omega) _).mono ?_; rw [HM.out]; rintro e w' ⟨rfl, rfl⟩)
            go_roundw
            case rel => exact ⟨m, acc, by omega, by omega, by go_num, by rw [HR.out, HN.out, HM.out], HO.out, HW.out⟩
            case measure => simp [intOf]; omega
          · have g1 : (((P.byt b k : Nat) : Int) == 32) = false := by rw [beq_eq_false_iff_ne]; omega
            have g2 : (((P.byt b k : Nat) : Int) == 9) = false := by rw [beq_eq_false_iff_ne]; omega
            have g3 : (((P.byt b k : Nat) : Int) == 35) = false := by rw [beq_eq_false_iff_ne]; omega
            cases ho : P.one b k with
            | error er =>
              have HE := Lib.hid ho
              have HN := Lib.hid (P.scanFrom_bad hlt h32 h9 h35 ho)
              have her := one_err ho
              have hne : (((er : Nat) : Int) != 0) = true := by rw [bne_iff_ne]; omega
              clear ho h32 h9 h35
              go_wp2_with fail
              refine (next_any b k hlt (by omega) _).mono ?_
              rw [HE.out]
              rintro e w2 ⟨rfl, hb2⟩
              simp only [oneV, tokV, nil]
              have hW2 : Below w.heap.size w w2 := HW.out.trans (hb2.mono HW.out.size)
              have HW2 := Lib.hid hW2
              clear hb2 hW2
              go_wp2_with fail
              go_ret2
              refine ⟨?_, (HW2.out.alloc HW2.out.size _).alloc (by have := HW2.out.size; simp; omega) _⟩
              rw [HR.out, HN.out]
              refine ⟨w2.heap.size + 1, rfl, by have := HW2.out.size; omega, ?_⟩
              have h := heap_alloc2_new w2 (.cells (tokCells nil) 35) (.cells #[.int .i64 ((k : Nat) : Int), .int .i64 ((er : Nat) : Int)] 47)
              exact h
            | ok t =>
              have HE := Lib.hid ho
              have HN := Lib.hid (P.scanFrom_one hlt h32 h9 h35 ho)
              have hf := P.one_fits hlt ho
              clear ho h32 h9 h35
              obtain ⟨hf1, hf2, hf3, hf4, hf5, hf6⟩ := hf
              have HF4 := Lib.hid hf4
              clear hf4 hf1 hf5 hf6
              go_wp2_with fail
              refine (next_any b k hlt (by omega) _).mono ?_
              rw [HE.out]
              rintro e w2 ⟨rfl, hb2⟩
              simp only [oneV, tokV]
              have hO2 := owns_on HO.out hb2
              have hW2 : Below w.heap.size w w2 := HW.out.trans (hb2.mono HW.out.size)
              have HO2 := Lib.hid hO2
              have HW2 := Lib.hid hW2
              clear hb2 hW2 hO2
              go_wp2_with (at_builtin; refine wpList_append_own _ rfl _ _ 23 rfl w.heap.size 35 i0 (tokV nil) 4 40 Tryd.underlying23 HI1.out HI2.out HI3.out HI4.out rfl (by decide) _ _ _ rfl ((HO2.out.alloc _).alloc _) ⟨w2.heap.size + 1, 0, none⟩ 1 1 (tokCells t).toList rfl rfl ?c1 ?c2 ?c3 ?c4 ?c5 ?_)
              · exact tok_news w2 (.cells (tokCells t) 35) t
              · exact tok_one t
              · have : maxLen = 9223372036854775807 := rfl
                omega
              · omega
              · have := HW2.out.size
                simp; omega
              · intro v' w1 hown hgrow _
                rw [flat_snoc] at hown
                have hlt2 := HO2.out.lt
                have ht1 : TokAt w1 w2.heap.size t := by
                  unfold TokAt
                  rw [hgrow.block w2.heap.size (by simp; omega) (fun e => by have := (hlt2 _ e.symm).2; omega)]
                  exact heap_alloc2_old w2 _ _
                have hw1 : Below w.heap.size w w1 := ((HW2.out.alloc HW2.out.size _).alloc (by have := HW2.out.size; simp; omega) _).grown hgrow (by have := HW2.out.size; simp; omega) (fun j hj => (hlt2 j hj).1)
                have hc2 := ht1.c2
                have HOWN := Lib.hid hown
                have HW1 := Lib.hid hw1
                clear hown hw1 hgrow hlt2 ht1
                go_wp2_with fail
                go_roundw
                case rel => exact ⟨k + t.text.size, acc ++ [t], hf3, by rw [List.length_append]; simp only [List.length_singleton]; omega, by go_num, by rw [HR.out, HN.out]; cases P.scanFrom b (k + t.text.size) <;> simp [pre], by rw [List.length_append]; exact HOWN.out, HW1.out⟩
                case measure => simp [intOf]; omega
    · obtain rfl : k = b.size := by omega
      have HN := Lib.hid (P.scanFrom_end (Nat.le_refl b.size))
      go_wp2_with (at_builtin; refine wpList_append_own _ rfl _ _ 23 rfl w.heap.size 35 i0 (tokV nil) 4 40 Tryd.underlying23 HI1.out HI2.out HI3.out HI4.out rfl (by decide) _ _ _ rfl (HO.out.alloc _) ⟨wr.heap.size, 0, none⟩ 1 1 (tokCells (P.fin b)).toList rfl rfl ?d1 ?d2 ?d3 ?d4 ?d5 ?_)
      · exact tok_news1 wr (P.fin b)
      · exact tok_one (P.fin b)
      · have : maxLen = 9223372036854775807 := rfl
        omega
      · omega
      · have := HW.out.size
        simp; omega
      · intro v' w1 hown hgrow _
        rw [flat_snoc] at hown
        have hlt2 := HO.out.lt
        have hw1 : Below w.heap.size w w1 := (HW.out.alloc HW.out.size _).grown hgrow (by have := HW.out.size; simp; omega) (fun j hj => (hlt2 j hj).1)
        have HOWN := Lib.hid hown
        have HW1 := Lib.hid hw1
        clear hown hw1 hgrow hlt2
        go_wp2_with fail
        go_ret2
        refine ⟨?_, HW1.out⟩
        rw [HR.out, HN.out]
        exact ⟨v', rfl, by rw [List.length_append]; exact HOWN.out⟩
end W
end Go.Proofs.YtbimjejidlohnaaDoor
