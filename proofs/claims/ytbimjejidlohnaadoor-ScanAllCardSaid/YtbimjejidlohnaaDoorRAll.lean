/- All the tokens of a text: the document's answer. -/
import Derived.Test.YtbimjejidlohnaaDoorROne
import Derived.OwnWalk
import Derived.Laws.OwnMore
namespace Go.Proofs.YtbimjejidlohnaaDoor
open Go.RowKit
namespace W

/-- What the document's answer hands back that has read a text. -/
def RRead (base : Nat) (r : Except (Nat × Nat) (List P.Tok)) (w : World) (e : Ending) (w' : World) : Prop :=
  (match r with
  | .ok l => ∃ v, e = .returned (.tuple #[v, .int .i64 0, .int .i64 0]) ∧ w'.ownsRow base 35 4 v l.length (flat l)
  | .error (k, er) => e = .returned (.tuple #[.slice none 0 0, .int .i64 ((k : Nat) : Int), .int .i64 ((er : Nat) : Int)])) ∧ Below w.heap.size w w'
set_option maxRecDepth 100000 in
set_option maxHeartbeats 800000 in
theorem rall_small (b : ByteArray) (hb : b.size ≤ 262144) (w : World) :
    Calls Tryd.prog 13 #[.string b] w (RRead w.heap.size (P.scanFrom b 0) w) := by
  obtain ⟨i0, hi, hz0, hz1, hz2⟩ := info_parts tok_info
  have HI1 := Lib.hid hi
  have HI2 := Lib.hid hz0
  have HI3 := Lib.hid hz1
  have HI4 := Lib.hid hz2
  clear hi hz0 hz1 hz2
  go_enter Tryd.func13, Tryd.ntmps13
  go_wp2_with fail
  go_loopw [5, 6] (fun v i wr => ∃ (k : Nat) (acc : List P.Tok), k ≤ b.size ∧ acc.length ≤ k ∧ i = .int .i64 k ∧ P.scanFrom b 0 = pre acc (P.scanFrom b k) ∧ wr.ownsRow w.heap.size 35 4 v acc.length (flat acc) ∧ Below w.heap.size w wr) (fun _ i _ => b.size - (intOf i).toNat)
  case atStart =>
    refine ⟨0, [], Nat.zero_le _, Nat.zero_le _, rfl, ?_, World.ownsRow_nil _ _ _ _, Below.refl _ _⟩
    cases P.scanFrom b 0 <;> rfl
  case round =>
    obtain ⟨k, acc, hk, hac, rfl, hr, ho, hw⟩ := hrel
    have HR := Lib.hid hr
    have HO := Lib.hid ho
    have HW := Lib.hid hw
    clear hr ho hw
    have hk0 : (0 : Int) ≤ (k : Int) := Int.natCast_nonneg _
    by_cases hlt : k < b.size
    · have hq : decide ((k : Int) < (b.size : Int)) = true := decide_eq_true (by omega)
      have ix := ix_byte b k hlt
      by_cases h32 : P.byt b k = 32
      · have HN := Lib.hid (P.scanFrom_blank hlt (.inl h32))
        rw [h32] at ix
        clear h32
        go_wp2_with fail
        go_roundw
        case rel => exact ⟨k + 1, acc, by omega, by omega, by go_num, by rw [HR.out, HN.out], HO.out, HW.out⟩
        case measure => simp [intOf]; omega
      · by_cases h9 : P.byt b k = 9
        · have HN := Lib.hid (P.scanFrom_blank hlt (.inr h9))
          rw [h9] at ix
          clear h9 h32
          go_wp2_with fail
          go_roundw
          case rel => exact ⟨k + 1, acc, by omega, by omega, by go_num, by rw [HR.out, HN.out], HO.out, HW.out⟩
          case measure => simp [intOf]; omega
        · by_cases h35 : P.byt b k = 35
          · have HN := Lib.hid (P.scanFrom_remark hlt h35)
            have hgt := P.ext_gt (p := P.remark) hlt (by rw [h35]; rfl)
            have hin := P.ext_in (p := P.remark) hlt (by rw [h35]; rfl)
            rw [h35] at ix
            clear h35 h9 h32
            have HGT := Lib.hid hgt
            have HIN := Lib.hid hin
            clear hin hgt
            go_wp2_with fail
            go_loopw [6] (fun i wr' => ∃ q : Nat, i = .int .i64 q ∧ k ≤ q ∧ q ≤ b.size ∧ P.ext P.remark b q = P.ext P.remark b k ∧ wr' = wr) (fun i _ => b.size - (intOf i).toNat)
            case atStart => exact ⟨k, rfl, Nat.le_refl _, hk, rfl, rfl⟩
            case round =>
              clear ix
              obtain ⟨q, rfl, hkq, hqb, he, rfl⟩ := hrel
              have HE := Lib.hid he
              clear he
              have hq0 : (0 : Int) ≤ (q : Int) := Int.natCast_nonneg _
              by_cases hql : q < b.size
              · have hq2 : decide ((q : Int) < (b.size : Int)) = true := decide_eq_true (by omega)
                have ix := ix_byte b q hql
                by_cases h10 : P.byt b q = 10
                · have hst := P.ext_out (p := P.remark) (b := b) (k := q) (by rw [h10]; rfl)
                  have HS := Lib.hid (hst.symm.trans HE.out)
                  rw [h10] at ix
                  clear h10 hst
                  go_wp2_with fail
                  go_roundw
                  case rel => exact ⟨q, acc, by omega, by omega, by go_num, by rw [HR.out, HN.out, ← HS.out], HO.out, HW.out⟩
                  case measure => have := HS.out; have := HGT.out; simp [intOf]; omega
                · have hst := P.ext_in (p := P.remark) hql (by unfold P.remark; rw [bne_iff_ne]; exact h10)
                  have HS := Lib.hid (hst.symm.trans HE.out)
                  have gx : (((P.byt b q : Nat) : Int) != 10) = true := by rw [bne_iff_ne]; omega
                  clear h10 hst
                  go_wp2_with fail
                  go_roundw
                  case rel => exact ⟨q + 1, by go_num, by omega, by omega, HS.out, by first | trivial | rfl⟩
                  case measure => simp [intOf]; omega
              · have hst := P.ext_end (p := P.remark) (b := b) (k := q) (by omega)
                have HS := Lib.hid (hst.symm.trans HE.out)
                have hq2 : decide ((q : Int) < (b.size : Int)) = false := decide_eq_false (by omega)
                clear hst
                go_wp2_with fail
                go_roundw
                case rel => exact ⟨q, acc, by omega, by omega, by go_num, by rw [HR.out, HN.out, ← HS.out], HO.out, HW.out⟩
                case measure => have := HS.out; have := HGT.out; simp [intOf]; omega
          · have g1 : (((P.byt b k : Nat) : Int) == 32) = false := by rw [beq_eq_false_iff_ne]; omega
            have g2 : (((P.byt b k : Nat) : Int) == 9) = false := by rw [beq_eq_false_iff_ne]; omega
            have g3 : (((P.byt b k : Nat) : Int) == 35) = false := by rw [beq_eq_false_iff_ne]; omega
            cases ho : P.one b k with
            | error er =>
              have HE := Lib.hid ho
              have HN := Lib.hid (P.scanFrom_bad hlt h32 h9 h35 ho)
              have her := one_err ho
              have hne : (((er : Nat) : Int) != 0) = true := by rw [bne_iff_ne]; omega
              clear ho h32 h9 h35
              go_wp2_with fail
              refine (rone_any b k hlt (by omega) _).mono ?_
              rw [HE.out]
              rintro e w2 ⟨⟨r, rfl⟩, hb2⟩
              simp only [tokV]
              have hW2 : Below w.heap.size w w2 := HW.out.trans (hb2.mono HW.out.size)
              have HW2 := Lib.hid hW2
              clear hb2 hW2
              go_wp2_with fail
              go_ret3
              refine ⟨?_, HW2.out.alloc HW2.out.size _⟩
              rw [HR.out, HN.out]
              exact rfl
            | ok t =>
              have HE := Lib.hid ho
              have HN := Lib.hid (P.scanFrom_one hlt h32 h9 h35 ho)
              have hf := P.one_fits hlt ho
              clear ho h32 h9 h35
              obtain ⟨hf1, hf2, hf3, hf4, hf5, hf6⟩ := hf
              have HF4 := Lib.hid hf4
              clear hf4 hf1 hf5 hf6
              go_wp2_with fail
              refine (rone_any b k hlt (by omega) _).mono ?_
              rw [HE.out]
              rintro e w2 ⟨he2, hb2⟩
              have he2 : e = .returned (.tuple #[tokV t, .int .i64 0]) := he2
              subst he2
              simp only [tokV]
              have hO2 := owns_on HO.out hb2
              have hW2 : Below w.heap.size w w2 := HW.out.trans (hb2.mono HW.out.size)
              have HO2 := Lib.hid hO2
              have HW2 := Lib.hid hW2
              clear hb2 hW2 hO2
              go_wp2_with (at_builtin; refine wpList_append_own _ rfl _ _ 23 rfl w.heap.size 35 i0 (tokV nil) 4 40 Tryd.underlying23 HI1.out HI2.out HI3.out HI4.out rfl (by decide) _ _ _ rfl ((HO2.out.alloc _).alloc _) ⟨w2.heap.size + 1, 0, none⟩ 1 1 (tokCells t).toList rfl rfl ?c1 ?c2 ?c3 ?c4 ?c5 ?_)
              · exact tok_news w2 (.cells (tokCells t) 35) t
              · exact tok_one t
              · have : maxLen = 9223372036854775807 := rfl
                omega
              · omega
              · have := HW2.out.size
                simp; omega
              · intro v' w1 hown hgrow _
                rw [flat_snoc] at hown
                have hlt2 := HO2.out.lt
                have ht1 : TokAt w1 w2.heap.size t := by
                  unfold TokAt
                  rw [hgrow.block w2.heap.size (by simp; omega) (fun e => by have := (hlt2 _ e.symm).2; omega)]
                  exact heap_alloc2_old w2 _ _
                have hw1 : Below w.heap.size w w1 := ((HW2.out.alloc HW2.out.size _).alloc (by have := HW2.out.size; simp; omega) _).grown hgrow (by have := HW2.out.size; simp; omega) (fun j hj => (hlt2 j hj).1)
                have hc2 := ht1.c2
                have HOWN := Lib.hid hown
                have HW1 := Lib.hid hw1
                clear hown hw1 hgrow hlt2 ht1
                go_wp2_with fail
                go_roundw
                case rel => exact ⟨k + t.text.size, acc ++ [t], hf3, by rw [List.length_append]; simp only [List.length_singleton]; omega, by go_num, by rw [HR.out, HN.out]; cases P.scanFrom b (k + t.text.size) <;> simp [pre], by rw [List.length_append]; exact HOWN.out, HW1.out⟩
                case measure => simp [intOf]; omega
    · obtain rfl : k = b.size := by omega
      have HN := Lib.hid (P.scanFrom_end (Nat.le_refl b.size))
      go_wp2_with (at_builtin; refine wpList_append_own _ rfl _ _ 23 rfl w.heap.size 35 i0 (tokV nil) 4 40 Tryd.underlying23 HI1.out HI2.out HI3.out HI4.out rfl (by decide) _ _ _ rfl (HO.out.alloc _) ⟨wr.heap.size, 0, none⟩ 1 1 (tokCells (P.fin b)).toList rfl rfl ?d1 ?d2 ?d3 ?d4 ?d5 ?_)
      · exact tok_news1 wr (P.fin b)
      · exact tok_one (P.fin b)
      · have : maxLen = 9223372036854775807 := rfl
        omega
      · omega
      · have := HW.out.size
        simp; omega
      · intro v' w1 hown hgrow _
        rw [flat_snoc] at hown
        have hlt2 := HO.out.lt
        have hw1 : Below w.heap.size w w1 := (HW.out.alloc HW.out.size _).grown hgrow (by have := HW.out.size; simp; omega) (fun j hj => (hlt2 j hj).1)
        have HOWN := Lib.hid hown
        have HW1 := Lib.hid hw1
        clear hown hw1 hgrow hlt2
        go_wp2_with fail
        go_ret3
        refine ⟨?_, HW1.out⟩
        rw [HR.out, HN.out]
        exact ⟨v', rfl, by rw [List.length_append]; exact HOWN.out⟩
theorem rall_any (b : ByteArray) (hb : b.size ≤ 281474976710656) (w : World) :
    Calls Tryd.prog 13 #[.string b] w (RRead w.heap.size (P.scanAll b) w) := by
  by_cases h : b.size ≤ 262144
  · have := rall_small b h w
    unfold P.scanAll
    rw [if_neg (by omega)]
    exact this
  · unfold P.scanAll
    rw [if_pos (by omega)]
    have hd : decide (262144 < (b.size : Int)) = true := decide_eq_true (by omega)
    go_enter Tryd.func13, Tryd.ntmps13
    go_wp2_with fail
    go_ret3
    exact ⟨rfl, Below.refl _ _⟩
end W
end Go.Proofs.YtbimjejidlohnaaDoor
