/- ScanAgain: the tokens' own bytes, with blanks behind each, are the same tokens. -/
import Derived.Test.YtbimjejidlohnaaDoorUpTo
import Derived.Test.YtbimjejidlohnaaDoorAgainP
import Derived.Test.YtbimjejidlohnaaDoorJoins
import Derived.Test.YtbimjejidlohnaaDoorPieces
import Derived.Deep.QuietTactic
import Derived.BigQuiet
namespace Go.Proofs.YtbimjejidlohnaaDoor
open Go.RowKit
namespace W

/-- A list of numbers that came in. -/
def Ints (w : World) (v : Value) (zs : List Int) : Prop := ∃ ao cap, v = .slice ao zs.length cap ∧ zs.length ≤ 281474976710656 ∧ (zs.length = 0 ∨ ∃ b off, ao = some ⟨b, off, none⟩ ∧ b < w.heap.size ∧ ∀ j, j < zs.length → w.cell? ⟨b, off + j, none⟩ = some (.int .i64 (zs.getD j 0)) ∧ -9223372036854775808 ≤ zs.getD j 0 ∧ zs.getD j 0 ≤ 9223372036854775807)
def b1 : ByteArray := ⟨#[32]⟩
def b2 : ByteArray := ⟨#[9]⟩
def b3 : ByteArray := ⟨#[32, 32, 9, 32]⟩
def raw (z : Int) : Int := if z < 0 then -(z + 1) else z
/-- What is let by, of a raw number. -/
def blk (z : Int) : ByteArray := if (raw z).tmod 4 = 0 then b1 else if (raw z).tmod 4 = 1 then b2 else b3
theorem blk_blank (z : Int) : P.Blank (blk z) := by
  have k1 : P.Blank b1 := ⟨by decide, fun i h => by match i, h with | 0, _ => exact .inl rfl⟩
  have k2 : P.Blank b2 := ⟨by decide, fun i h => by match i, h with | 0, _ => exact .inr rfl⟩
  have k3 : P.Blank b3 := ⟨by decide, fun i h => by match i, h with | 0, _ => exact .inl rfl | 1, _ => exact .inl rfl | 2, _ => exact .inr rfl | 3, _ => exact .inl rfl⟩
  unfold blk
  split
  · exact k1
  · split
    · exact k2
    · exact k3
theorem blk_size (z : Int) : (blk z).size ≤ 4 := by
  unfold blk
  split
  · decide
  · split <;> decide
set_option maxRecDepth 100000 in
set_option maxHeartbeats 4000000 in
theorem blank_neg0 (z : Int) (hz : -9223372036854775808 ≤ z ∧ z ≤ 9223372036854775807) (hn : z < 0) (hm : (-(z + 1)).tmod 4 = 0) (w : World) : Calls Tryd.prog 16 #[.int .i64 z] w fun e w' => e = .returned (.string b1) ∧ w' = w := by
  have hd : decide (z < 0) = true := decide_eq_true hn
  go_enter Tryd.func16, Tryd.ntmps16
  go_wp2_with fail
  go_ret
  exact ⟨rfl, rfl⟩
set_option maxRecDepth 100000 in
set_option maxHeartbeats 4000000 in
theorem blank_neg1 (z : Int) (hz : -9223372036854775808 ≤ z ∧ z ≤ 9223372036854775807) (hn : z < 0) (hm : (-(z + 1)).tmod 4 = 1) (w : World) : Calls Tryd.prog 16 #[.int .i64 z] w fun e w' => e = .returned (.string b2) ∧ w' = w := by
  have hd : decide (z < 0) = true := decide_eq_true hn
  go_enter Tryd.func16, Tryd.ntmps16
  go_wp2_with fail
  go_ret
  exact ⟨rfl, rfl⟩
set_option maxRecDepth 100000 in
set_option maxHeartbeats 4000000 in
theorem blank_neg2 (z : Int) (hz : -9223372036854775808 ≤ z ∧ z ≤ 9223372036854775807) (hn : z < 0) (hm : (-(z + 1)).tmod 4 = 2) (w : World) : Calls Tryd.prog 16 #[.int .i64 z] w fun e w' => e = .returned (.string b3) ∧ w' = w := by
  have hd : decide (z < 0) = true := decide_eq_true hn
  go_enter Tryd.func16, Tryd.ntmps16
  go_wp2_with fail
  go_ret
  exact ⟨rfl, rfl⟩
set_option maxRecDepth 100000 in
set_option maxHeartbeats 4000000 in
theorem blank_neg3 (z : Int) (hz : -9223372036854775808 ≤ z ∧ z ≤ 9223372036854775807) (hn : z < 0) (hm : (-(z + 1)).tmod 4 = 3) (w : World) : Calls Tryd.prog 16 #[.int .i64 z] w fun e w' => e = .returned (.string b3) ∧ w' = w := by
  have hd : decide (z < 0) = true := decide_eq_true hn
  go_enter Tryd.func16, Tryd.ntmps16
  go_wp2_with fail
  go_ret
  exact ⟨rfl, rfl⟩
set_option maxRecDepth 100000 in
set_option maxHeartbeats 4000000 in
theorem blank_pos0 (z : Int) (hz : -9223372036854775808 ≤ z ∧ z ≤ 9223372036854775807) (hn : 0 ≤ z) (hm : (z).tmod 4 = 0) (w : World) : Calls Tryd.prog 16 #[.int .i64 z] w fun e w' => e = .returned (.string b1) ∧ w' = w := by
  have hd : decide (z < 0) = false := decide_eq_false (by omega)
  go_enter Tryd.func16, Tryd.ntmps16
  go_wp2_with fail
  go_ret
  exact ⟨rfl, rfl⟩
set_option maxRecDepth 100000 in
set_option maxHeartbeats 4000000 in
theorem blank_pos1 (z : Int) (hz : -9223372036854775808 ≤ z ∧ z ≤ 9223372036854775807) (hn : 0 ≤ z) (hm : (z).tmod 4 = 1) (w : World) : Calls Tryd.prog 16 #[.int .i64 z] w fun e w' => e = .returned (.string b2) ∧ w' = w := by
  have hd : decide (z < 0) = false := decide_eq_false (by omega)
  go_enter Tryd.func16, Tryd.ntmps16
  go_wp2_with fail
  go_ret
  exact ⟨rfl, rfl⟩
set_option maxRecDepth 100000 in
set_option maxHeartbeats 4000000 in
theorem blank_pos2 (z : Int) (hz : -9223372036854775808 ≤ z ∧ z ≤ 9223372036854775807) (hn : 0 ≤ z) (hm : (z).tmod 4 = 2) (w : World) : Calls Tryd.prog 16 #[.int .i64 z] w fun e w' => e = .returned (.string b3) ∧ w' = w := by
  have hd : decide (z < 0) = false := decide_eq_false (by omega)
  go_enter Tryd.func16, Tryd.ntmps16
  go_wp2_with fail
  go_ret
  exact ⟨rfl, rfl⟩
set_option maxRecDepth 100000 in
set_option maxHeartbeats 4000000 in
theorem blank_pos3 (z : Int) (hz : -9223372036854775808 ≤ z ∧ z ≤ 9223372036854775807) (hn : 0 ≤ z) (hm : (z).tmod 4 = 3) (w : World) : Calls Tryd.prog 16 #[.int .i64 z] w fun e w' => e = .returned (.string b3) ∧ w' = w := by
  have hd : decide (z < 0) = false := decide_eq_false (by omega)
  go_enter Tryd.func16, Tryd.ntmps16
  go_wp2_with fail
  go_ret
  exact ⟨rfl, rfl⟩
theorem blank_any (z : Int) (hz : -9223372036854775808 ≤ z ∧ z ≤ 9223372036854775807) (w : World) : Calls Tryd.prog 16 #[.int .i64 z] w fun e w' => e = .returned (.string (blk z)) ∧ w' = w := by
  unfold blk raw
  by_cases hn : z < 0
  · rw [if_pos hn]
    have e1 := Int.tmod_eq_emod_of_nonneg (b := 4) (show 0 ≤ -(z + 1) by omega)
    have h4 : (-(z + 1)).tmod 4 = 0 ∨ (-(z + 1)).tmod 4 = 1 ∨ (-(z + 1)).tmod 4 = 2 ∨ (-(z + 1)).tmod 4 = 3 := by omega
    rcases h4 with h | h | h | h
    · rw [if_pos h]; exact blank_neg0 z hz hn h w
    · rw [if_neg (by omega), if_pos h]; exact blank_neg1 z hz hn h w
    · rw [if_neg (by omega), if_neg (by omega)]; exact blank_neg2 z hz hn h w
    · rw [if_neg (by omega), if_neg (by omega)]; exact blank_neg3 z hz hn h w
  · rw [if_neg hn]
    have e1 := Int.tmod_eq_emod_of_nonneg (b := 4) (show 0 ≤ z by omega)
    have h4 : z.tmod 4 = 0 ∨ z.tmod 4 = 1 ∨ z.tmod 4 = 2 ∨ z.tmod 4 = 3 := by omega
    rcases h4 with h | h | h | h
    · rw [if_pos h]; exact blank_pos0 z hz (by omega) h w
    · rw [if_neg (by omega), if_pos h]; exact blank_pos1 z hz (by omega) h w
    · rw [if_neg (by omega), if_neg (by omega)]; exact blank_pos2 z hz (by omega) h w
    · rw [if_neg (by omega), if_neg (by omega)]; exact blank_pos3 z hz (by omega) h w

theorem scanAll_self {b : ByteArray} {l : List P.Tok} (h : P.scanAll b = .ok l) : ∀ t ∈ l.dropLast, P.Self t := by
  unfold P.scanAll at h
  split at h
  · cases h
  · exact P.scan_self _ _ _ h
theorem scanAll_texts {b : ByteArray} {l : List P.Tok} (h : P.scanAll b = .ok l) : ∀ t ∈ l, t.text.size ≤ 262144 := fun t ht => by
  have hl := P.scanAll_len h
  have hp := P.scanAll_pieces h
  have key : ∀ (l : List P.Tok) (i : Nat), P.Pieces b i l → ∀ t ∈ l, t.text.size ≤ b.size := by
    intro l
    induction l with
    | nil => intro i _ t ht; cases ht
    | cons u r ih =>
      intro i hp t ht
      obtain ⟨_, h2, _, _, _, _, h7⟩ := hp
      rcases List.mem_cons.1 ht with rfl | ht
      · omega
      · exact ih _ h7 t ht
  have := key l 0 hp t ht
  omega
/-- The blanks of the i-th token. -/
def bls (zs : List Int) (i : Nat) : ByteArray := if zs.length = 0 then b1 else blk (zs.getD (i % zs.length) 0)
theorem bls_blank (zs : List Int) (i : Nat) : P.Blank (bls zs i) := by
  unfold bls
  split
  · exact ⟨by decide, fun i h => by match i, h with | 0, _ => exact .inl rfl⟩
  · exact blk_blank _
theorem bls_size (zs : List Int) (i : Nat) : (bls zs i).size ≤ 4 := by
  unfold bls
  split
  · decide
  · exact blk_size _
/-- The tokens' own bytes are the same tokens. -/
theorem again_scan {b note : ByteArray} {l : List P.Tok} {zs : List Int} (h : P.scanAll b = .ok l) (hn : ∀ i, i < note.size → P.byt note i ≠ 10) (hs : (P.cat note (bls zs) 0 l).size ≤ 262144) : ∃ m, P.scanAll (P.cat note (bls zs) 0 l) = .ok m ∧ P.Like l m := by
  obtain ⟨m, h1, h2⟩ := P.cat_scan hn (bls_blank zs) b.size l.dropLast 0 ByteArray.empty (scanAll_self h)
  have hl := P.scanAll_last h
  have hf : (⟨0, b.size, ByteArray.empty, 0⟩ : P.Tok) = P.fin b := rfl
  rw [hf, ← hl, P.empty_append] at h1
  rw [hf, ← hl] at h2
  refine ⟨m, ?_, h2⟩
  unfold P.scanAll
  rw [if_neg (by omega)]
  exact h1
set_option maxRecDepth 100000 in
set_option maxHeartbeats 4000000 in
theorem again_bad (b r : ByteArray) (hb : b.size ≤ 1048576) (v : Value) (k er : Nat) (hs : P.scanAll b = .error (k, er)) (w : World) (hg : Handle w) : Calls Tryd.prog 5 #[.string b, v, .string r] w fun e w' => e = .returned (.bool true) ∧ Below w.heap.size w w' := by
  go_enter Tryd.func5, Tryd.ntmps5
  go_wp2_with fail
  refine (shown_any _ hg).mono ?_
  rintro e w1 ⟨rfl, hb1⟩
  have HB1 := Lib.hid hb1
  clear hb1
  go_wp2_with fail
  refine (all_bad hs (by omega) _).mono ?_
  rintro e w2 ⟨g, rfl, hf, hb2⟩
  have HB2 := Lib.hid (HB1.out.trans (hb2.mono HB1.out.size))
  have HF := Lib.hid hf
  have HS := Lib.hid hs
  clear hf hb2 hs
  go_wp2_with fail
  go_ret
  exact ⟨rfl, HB2.out⟩
set_option maxRecDepth 100000 in
set_option maxHeartbeats 4000000 in
theorem again_ok (b r : ByteArray) (hb : b.size ≤ 1048576) (hr : r.size ≤ 1048576) (v : Value) (zs : List Int) (l : List P.Tok) (hs : P.scanAll b = .ok l) (w : World) (hv : Ints w v zs) (hg : Handle w) : Calls Tryd.prog 5 #[.string b, v, .string r] w fun e w' => e = .returned (.bool true) ∧ Below w.heap.size w w' := by
  obtain ⟨ao, vcap, rfl, hzl, hz⟩ := hv
  have HV := Lib.hid hz
  have HS := Lib.hid hs
  have hlen := P.scanAll_len hs
  have HG := Lib.hid hg
  clear hz hs hg
  go_enter Tryd.func5, Tryd.ntmps5
  go_wp2_with fail
  refine (shown_any _ HG.out).mono ?_
  rintro e w1 ⟨rfl, hb1⟩
  have HB1 := Lib.hid hb1
  clear hb1
  go_wp2_with fail
  refine (all_ok HS.out (by omega) _).mono ?_
  rintro e w2 ⟨g, cap, rfl, _, hcap, ht, hb2⟩
  have HT := Lib.hid ht
  have HB2 := Lib.hid (HB1.out.trans (hb2.mono HB1.out.size))
  obtain ⟨n, hn⟩ : ∃ n, l.length = n := ⟨_, rfl⟩
  rw [hn] at hlen hcap ⊢
  have hn1 := hlen.1
  have hn2 := hlen.2
  have HN := Lib.hid hn
  clear ht hb2 hlen hn
  go_wp2_with fail
  go_loopw [11, 12] (fun s i wr => ∃ (x : ByteArray) (j : Nat), s = .string x ∧ i = .int .i64 j ∧ j ≤ r.size ∧ x.size ≤ j ∧ (∀ y, y < x.size → P.byt x y ≠ 10) ∧ wr = w2) (fun _ i _ => r.size - (intOf i).toNat)
  case atStart => exact ⟨ByteArray.empty, 0, rfl, rfl, Nat.zero_le _, Nat.le_refl ByteArray.empty.size, fun y hy => absurd hy (Nat.not_lt_zero y), by first | trivial | rfl⟩
  case round =>
    obtain ⟨x, j, rfl, rfl, hj, hxs, hno, hw⟩ := hrel
    obtain rfl : w2 = wr := hw.symm
    have HNO := Lib.hid hno
    clear hno hw
    have hj0 : (0 : Int) ≤ (j : Int) := Int.natCast_nonneg _
    by_cases hlt : j < r.size
    · have hq : decide ((j : Int) < (r.size : Int)) = true := decide_eq_true (by omega)
      have ix := ix_byte r j hlt
      by_cases h10 : P.byt r j = 10
      · rw [h10] at ix
        clear h10
        go_wp2_with fail
        go_roundw
        case rel => exact ⟨x, j + 1, rfl, by go_num, by omega, by omega, HNO.out, by first | trivial | rfl⟩
        case measure => simp [intOf]; omega
      · have gx : (((P.byt r j : Nat) : Int) != 10) = true := by rw [bne_iff_ne]; omega
        have hez : (r.extract j (j + 1)).size = 1 := by have := P.extract_size (b := r) (i := j) (j := j + 1) hlt; omega
        have hsl := sl_any r j (j + 1) (by omega) hlt (j : Int) ((j : Int) + 1) rfl (by omega)
        obtain ⟨y, hy⟩ : ∃ y, r.extract j (j + 1) = y := ⟨_, rfl⟩
        rw [hy] at hsl hez
        have hyb : P.byt y 0 = P.byt r j := by rw [← hy, P.byt_extract hlt (by omega), Nat.add_zero]
        have hcat := fun w : World => cat_any w x y (by omega)
        have hns : ¬ (9223372036854775807 < x.size + y.size) := by omega
        have HY := Lib.hid (show P.byt y 0 ≠ 10 by omega)
        have HE := Lib.hid hez
        clear hy hyb h10 hez
        go_wp2_with fail
        go_roundw
        case rel =>
          refine ⟨x ++ y, j + 1, rfl, by go_num, by omega, by rw [ByteArray.size_append, HE.out]; omega, fun z hz => ?_, by first | trivial | rfl⟩
          rw [ByteArray.size_append, HE.out] at hz
          by_cases hzx : z < x.size
          · rw [P.byt_append_left hzx]; exact HNO.out z hzx
          · rw [P.byt_append_right (by omega), show z - x.size = 0 by omega]; exact HY.out
        case measure => simp [intOf]; omega
    · have hq : decide ((j : Int) < (r.size : Int)) = false := decide_eq_false (by omega)
      obtain ⟨nt, hnt⟩ : ∃ nt, x = nt := ⟨_, rfl⟩
      subst hnt
      have hcs := P.cat_size (note := x) (bl := bls zs) (by omega) (bls_size zs) l 0 (scanAll_texts HS.out)
      rw [HN.out] at hcs
      obtain ⟨T, hT⟩ : ∃ T, P.cat x (bls zs) 0 l = T := ⟨_, rfl⟩
      rw [hT] at hcs
      have hT39 : T.size ≤ 549755813888 := by omega
      have HT0 := Lib.hid hT
      clear hT hcs
      go_wp2_with fail
      go_loopw [10, 13] (fun s i wr => ∃ (s1 : ByteArray) (j : Nat), s = .string s1 ∧ i = .int .i64 j ∧ j ≤ n ∧ s1 ++ P.cat x (bls zs) j (l.drop j) = T ∧ wr = w2) (fun _ i _ => n - (intOf i).toNat)
      case atStart => exact ⟨ByteArray.empty, 0, rfl, rfl, Nat.zero_le _, by rw [P.empty_append, List.drop_zero]; exact HT0.out, by first | trivial | rfl⟩
      case round =>
        obtain ⟨s1, j, rfl, rfl, hj, hcat, hw⟩ := hrel
        obtain rfl : w2 = wr := hw.symm
        have hx1 : s1.size ≤ 549755813888 := by
          have := congrArg ByteArray.size hcat
          rw [ByteArray.size_append] at this
          omega
        have HC := Lib.hid hcat
        clear hcat hw
        have hj0 : (0 : Int) ≤ (j : Int) := Int.natCast_nonneg _
        by_cases hlt : j < n
        · have hjl : j < l.length := by rw [HN.out]; exact hlt
          obtain ⟨t, ht⟩ : ∃ t, l[j]? = some t := ⟨l[j], by simp [hjl]⟩
          have hdr : l.drop j = t :: l.drop (j + 1) := by
            rw [List.drop_eq_getElem_cons hjl]
            congr 1
            rw [List.getElem?_eq_getElem hjl] at ht
            exact Option.some.inj ht
          have a0 : w2.cell? ⟨g, j * 4, none⟩ = some (.int .i64 ((t.kind : Nat) : Int)) := HT.out.c j t ht 0 _ rfl
          have a2 : w2.cell? ⟨g, j * 4 + 2, none⟩ = some (.string t.text) := HT.out.c j t ht 2 _ rfl
          have htz := scanAll_texts HS.out t (List.mem_of_getElem? ht)
          have i1 : (j : Int) < (n : Int) := by omega
          have hq : decide ((j : Int) < (n : Int)) = true := decide_eq_true (by omega)
          have hnext : s1 ++ ((if t.kind = 1 then P.hash ++ x else ByteArray.empty) ++ (t.text ++ (bls zs j ++ P.cat x (bls zs) (j + 1) (l.drop (j + 1))))) = T := by
            have := HC.out
            rw [hdr] at this
            exact this
          have HX := Lib.hid hnext
          have HD := Lib.hid hdr
          have HTT := Lib.hid ht
          clear hnext hdr ht hjl
          by_cases hze : zs.length = 0
          · have HZE := Lib.hid hze
            have hzi : (zs.length : Int) = 0 := by omega
            by_cases hk : t.kind = 1
            · have q : Nat := 0
              have gk : (((t.kind : Nat) : Int) == 1) = true := by rw [beq_iff_eq]; omega
              have z0 : (⟨#[35]⟩ : ByteArray).size = 1 := rfl
              have z1 : (s1 ++ (⟨#[35]⟩ : ByteArray)).size = s1.size + 1 := by rw [ByteArray.size_append]; rfl
              have z2 : (s1 ++ (⟨#[35]⟩ : ByteArray) ++ x).size = s1.size + 1 + x.size := by rw [ByteArray.size_append, z1]
              have z3 : (s1 ++ (⟨#[35]⟩ : ByteArray) ++ x ++ t.text).size = s1.size + 1 + x.size + t.text.size := by rw [ByteArray.size_append, z2]
              have HK := Lib.hid hk
              have z4 : (⟨#[32]⟩ : ByteArray).size = 1 := rfl
              have gz : decide ((0 : Int) < (zs.length : Int)) = false := decide_eq_false (by omega)
              clear hk
              go_wp2_with fail
              go_roundw
              case rel =>
                refine ⟨s1 ++ (⟨#[35]⟩ : ByteArray) ++ x ++ t.text ++ (⟨#[32]⟩ : ByteArray), j + 1, rfl, by go_num, by omega, ?_, by first | trivial | rfl⟩
                have h := HX.out
                rw [if_pos HK.out] at h
                unfold bls at h
                rw [if_pos (by omega)] at h
                rw [← h]
                simp only [P.append_assoc]
                rfl
              case measure => simp [intOf]; omega
            · have q : Nat := 0
              have gk : (((t.kind : Nat) : Int) == 1) = false := by rw [beq_eq_false_iff_ne]; omega
              have z3 : (s1 ++ t.text).size = s1.size + t.text.size := by rw [ByteArray.size_append]
              have HK := Lib.hid hk
              have z4 : (⟨#[32]⟩ : ByteArray).size = 1 := rfl
              have gz : decide ((0 : Int) < (zs.length : Int)) = false := decide_eq_false (by omega)
              clear hk
              go_wp2_with fail
              go_roundw
              case rel =>
                refine ⟨s1 ++ t.text ++ (⟨#[32]⟩ : ByteArray), j + 1, rfl, by go_num, by omega, ?_, by first | trivial | rfl⟩
                have h := HX.out
                rw [if_neg HK.out] at h
                unfold bls at h
                rw [if_pos (by omega)] at h
                rw [← h]
                simp only [P.append_assoc, P.empty_append]
                rfl
              case measure => simp [intOf]; omega
          · obtain ⟨bb, off, rfl, hbl, hcell⟩ := HV.out.resolve_left hze
            obtain ⟨q, hqq⟩ : ∃ q, j % zs.length = q := ⟨_, rfl⟩
            have hql : q < zs.length := by rw [← hqq]; exact Nat.mod_lt _ (by omega)
            have hm : ((j : Nat) : Int).tmod (zs.length : Int) = (q : Int) := by rw [Int.tmod_eq_emod_of_nonneg (by omega), ← hqq]; rfl
            have hqi : (q : Int) < (zs.length : Int) := by omega
            obtain ⟨hc1, hc2, hc3⟩ := hcell q hql
            have HQ := Lib.hid (show bls zs j = blk (zs.getD q 0) by unfold bls; rw [if_neg hze, hqq])
            obtain ⟨z, hz⟩ : ∃ z, zs.getD q 0 = z := ⟨_, rfl⟩
            rw [hz] at hc1 hc2 hc3 HQ
            have bc : w2.cell? ⟨bb, off + q, none⟩ = some (.int .i64 z) := (HB2.out.cell (p := ⟨bb, off + q, none⟩) hbl).trans hc1
            have HZB := Lib.hid (And.intro hc2 hc3)
            obtain ⟨B, hB⟩ : ∃ B, blk z = B := ⟨_, rfl⟩
            have hB4 : B.size ≤ 4 := by rw [← hB]; exact blk_size z
            rw [hB] at HQ
            have hcall : ∀ w : World, Calls Tryd.prog 16 #[.int .i64 z] w fun e w' => e = .returned (.string B) ∧ w' = w := fun w => by rw [← hB]; exact blank_any z HZB.out w
            have HCALL := Lib.hid hcall
            clear hcell hqq hc1 hc2 hc3 hz hB hcall
            by_cases hk : t.kind = 1
            · skip
              have gk : (((t.kind : Nat) : Int) == 1) = true := by rw [beq_iff_eq]; omega
              have z0 : (⟨#[35]⟩ : ByteArray).size = 1 := rfl
              have z1 : (s1 ++ (⟨#[35]⟩ : ByteArray)).size = s1.size + 1 := by rw [ByteArray.size_append]; rfl
              have z2 : (s1 ++ (⟨#[35]⟩ : ByteArray) ++ x).size = s1.size + 1 + x.size := by rw [ByteArray.size_append, z1]
              have z3 : (s1 ++ (⟨#[35]⟩ : ByteArray) ++ x ++ t.text).size = s1.size + 1 + x.size + t.text.size := by rw [ByteArray.size_append, z2]
              have HK := Lib.hid hk
              have z4 := hB4
              have gz : decide ((0 : Int) < (zs.length : Int)) = true := decide_eq_true (by omega)
              clear hk
              go_wp2_with fail
              refine (HCALL.out _).mono ?_
              rintro e w' ⟨rfl, hw'⟩
              obtain rfl : w2 = w' := hw'.symm
              go_wp2_with fail
              go_roundw
              case rel =>
                refine ⟨s1 ++ (⟨#[35]⟩ : ByteArray) ++ x ++ t.text ++ B, j + 1, rfl, by go_num, by omega, ?_, by first | trivial | rfl⟩
                have h := HX.out
                rw [if_pos HK.out] at h
                rw [HQ.out] at h
                rw [← h]
                simp only [P.append_assoc]
                rfl
              case measure => simp [intOf]; omega
            · skip
              have gk : (((t.kind : Nat) : Int) == 1) = false := by rw [beq_eq_false_iff_ne]; omega
              have z3 : (s1 ++ t.text).size = s1.size + t.text.size := by rw [ByteArray.size_append]
              have HK := Lib.hid hk
              have z4 := hB4
              have gz : decide ((0 : Int) < (zs.length : Int)) = true := decide_eq_true (by omega)
              clear hk
              go_wp2_with fail
              refine (HCALL.out _).mono ?_
              rintro e w' ⟨rfl, hw'⟩
              obtain rfl : w2 = w' := hw'.symm
              go_wp2_with fail
              go_roundw
              case rel =>
                refine ⟨s1 ++ t.text ++ B, j + 1, rfl, by go_num, by omega, ?_, by first | trivial | rfl⟩
                have h := HX.out
                rw [if_neg HK.out] at h
                rw [HQ.out] at h
                rw [← h]
                simp only [P.append_assoc, P.empty_append]
                done
              case measure => simp [intOf]; omega
        · obtain rfl : j = n := by omega
          have hq : decide ((j : Int) < (j : Int)) = false := decide_eq_false (by omega)
          have hs1 : s1 = T := by
            have := HC.out
            rw [List.drop_eq_nil_of_le (by rw [HN.out]; exact Nat.le_refl _)] at this
            exact (P.append_empty s1).symm.trans this
          subst hs1
          have HCAT := Lib.hid (HT0.out)
          by_cases hbig : 262144 < s1.size
          · have hsb : P.scanAll s1 = .error (262144, 2) := by unfold P.scanAll; rw [if_pos hbig]
            have HSB := Lib.hid hsb
            have gb : decide ((262144 : Int) < (s1.size : Int)) = true := decide_eq_true (by omega)
            clear hsb
            go_wp2_with fail
            refine (all_bad HSB.out (by omega) _).mono ?_
            rintro e w3 ⟨g3, rfl, hf3, hb3⟩
            have HB3 := Lib.hid (HB2.out.trans (hb3.mono HB2.out.size))
            have HF3 := Lib.hid hf3
            clear hf3 hb3
            go_wp2_with fail
            refine (fault_at g3 262144 2 _ HF3.out (HG.out.on HB3.out)).mono ?_
            rintro e w4 ⟨rfl, hb4⟩
            have HB4 := Lib.hid (HB3.out.trans (hb4.mono HB3.out.size))
            clear hb4
            go_wp2_with fail
            go_ret
            exact ⟨rfl, HB4.out⟩
          · have gb : decide ((262144 : Int) < (s1.size : Int)) = false := decide_eq_false (by omega)
            obtain ⟨m, hm, hlike⟩ := again_scan HS.out HNO.out (by rw [HCAT.out]; omega)
            rw [HCAT.out] at hm
            have HM := Lib.hid hm
            have HL := Lib.hid hlike
            have hmn : m.length = j := by rw [← hlike.1]; exact HN.out
            have HMN := Lib.hid hmn
            clear hm hlike hmn
            go_wp2_with fail
            refine (all_ok HM.out (by omega) _).mono ?_
            rintro e w3 ⟨g3, cap3, rfl, _, _, ht3, hb3⟩
            have HB3 := Lib.hid (HB2.out.trans (hb3.mono HB2.out.size))
            have HT3 := Lib.hid ht3
            have HTA := Lib.hid (HT.out.on hb3)
            rw [HMN.out]
            clear ht3 hb3
            go_wp2_with fail
            go_loopw [18] (fun i wr => ∃ k : Nat, k ≤ j ∧ i = .int .i64 k ∧ Below w3.heap.size w3 wr) (fun i _ => j - (intOf i).toNat)
            case atStart => exact ⟨0, Nat.zero_le _, rfl, Below.refl _ _⟩
            case round =>
              obtain ⟨k, hk, rfl, hbw⟩ := hrel
              have HW := Lib.hid hbw
              clear hbw
              have hk0 : (0 : Int) ≤ (k : Int) := Int.natCast_nonneg _
              by_cases hkj : k < j
              · have fj : decide ((k : Int) < (j : Int)) = true := decide_eq_true (by omega)
                have hjl : k < l.length := by rw [HN.out]; exact hkj
                have hjm : k < m.length := by rw [HMN.out]; exact hkj
                obtain ⟨t, ht⟩ : ∃ t, l[k]? = some t := ⟨l[k], by simp [hjl]⟩
                obtain ⟨u, hu⟩ : ∃ u, m[k]? = some u := ⟨m[k], by simp [hjm]⟩
                obtain ⟨e1, e2, e3⟩ := HL.out.2 k t u ht hu
                have a0 : wr.cell? ⟨g, k * 4, none⟩ = some (.int .i64 ((t.kind : Nat) : Int)) := (HW.out.cell (p := ⟨g, k * 4 + 0, none⟩) HTA.out.lt).trans (HTA.out.c k t ht 0 _ rfl)
                have a2 : wr.cell? ⟨g, k * 4 + 2, none⟩ = some (.string t.text) := (HW.out.cell (p := ⟨g, k * 4 + 2, none⟩) HTA.out.lt).trans (HTA.out.c k t ht 2 _ rfl)
                have a3 : wr.cell? ⟨g, k * 4 + 3, none⟩ = some (.int .i64 ((t.number : Nat) : Int)) := (HW.out.cell (p := ⟨g, k * 4 + 3, none⟩) HTA.out.lt).trans (HTA.out.c k t ht 3 _ rfl)
                have b0 : wr.cell? ⟨g3, k * 4, none⟩ = some (.int .i64 ((t.kind : Nat) : Int)) := by rw [← e1]; exact (HW.out.cell (p := ⟨g3, k * 4 + 0, none⟩) HT3.out.lt).trans (HT3.out.c k u hu 0 _ rfl)
                have b2 : wr.cell? ⟨g3, k * 4 + 2, none⟩ = some (.string t.text) := by rw [← e2]; exact (HW.out.cell (p := ⟨g3, k * 4 + 2, none⟩) HT3.out.lt).trans (HT3.out.c k u hu 2 _ rfl)
                have b3 : wr.cell? ⟨g3, k * 4 + 3, none⟩ = some (.int .i64 ((t.number : Nat) : Int)) := by rw [← e3]; exact (HW.out.cell (p := ⟨g3, k * 4 + 3, none⟩) HT3.out.lt).trans (HT3.out.c k u hu 3 _ rfl)
                have i1 : (k : Int) < (j : Int) := by omega
                clear ht hu e1 e2 e3 hjl hjm
                go_wp2_with fail
                go_quiet (fail)
                go_wp2_with fail
                go_roundw
                case rel => exact ⟨k + 1, by omega, by go_num, below_drewN HW.out _⟩
                case measure => simp [intOf]; omega
              · have fj : decide ((k : Int) < (j : Int)) = false := decide_eq_false (by omega)
                go_wp2_with fail
                go_ret
                exact ⟨rfl, HB3.out.trans (HW.out.mono HB3.out.size)⟩

theorem again_any (b r : ByteArray) (hb : b.size ≤ 1048576) (hr : r.size ≤ 1048576) (v : Value) (zs : List Int) (w : World) (hv : Ints w v zs) (hg : Handle w) : Calls Tryd.prog 5 #[.string b, v, .string r] w fun e w' => e = .returned (.bool true) ∧ Below w.heap.size w w' := by
  cases hs : P.scanAll b with
  | ok l => exact again_ok b r hb hr v zs l hs w hv hg
  | error x =>
    obtain ⟨k, er⟩ := x
    exact again_bad b r hb v k er hs w hg
end W
end Go.Proofs.YtbimjejidlohnaaDoor
