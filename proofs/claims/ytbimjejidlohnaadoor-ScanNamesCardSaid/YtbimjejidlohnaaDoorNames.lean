/- ScanNames: names, variables and numbers up to their limits, and not beyond. -/
import Derived.Test.YtbimjejidlohnaaDoorUpTo
import Derived.Test.YtbimjejidlohnaaDoorNamed
import Derived.Test.YtbimjejidlohnaaDoorJoins
import Derived.Deep.Cut
namespace Go.Proofs.YtbimjejidlohnaaDoor
open Go.RowKit
namespace W

/-- What a call of the scanner hands back: its tokens and its error. -/
def Out (w : World) (r : Except (Nat × Nat) (List P.Tok)) (v x : Value) : Prop :=
  match r with
  | .ok l => ∃ g cap, v = .slice (some ⟨g, 0, none⟩) l.length cap ∧ x = .nilIface ∧ Toks w g l
  | .error (k, er) => ∃ g, v = .slice none 0 0 ∧ x = .iface 45 (.pointer (some ⟨g, 0, none⟩)) ∧ FaultAt w g k er
theorem Out.on {w w' : World} {r : Except (Nat × Nat) (List P.Tok)} {v x : Value} (h : Out w r v x) (hb : Below w.heap.size w w') : Out w' r v x := by
  cases r with
  | ok l =>
    obtain ⟨g, cap, h1, h2, h3⟩ := h
    exact ⟨g, cap, h1, h2, h3.on hb⟩
  | error y =>
    obtain ⟨k, er⟩ := y
    obtain ⟨g, h1, h2, h3⟩ := h
    exact ⟨g, h1, h2, h3.on hb⟩
theorem all_out (b : ByteArray) (hb : b.size ≤ 281474976710656) (w : World) :
    Calls Tryd.prog 12 #[.string b] w fun e w' => ∃ v x, e = .returned (.tuple #[v, x]) ∧ Out w' (P.scanAll b) v x ∧ Below w.heap.size w w' := by
  cases hs : P.scanAll b with
  | ok l =>
    refine (all_ok hs hb w).mono ?_
    rintro e w' ⟨g, cap, rfl, _, _, ht, hb⟩
    exact ⟨_, _, rfl, ⟨g, cap, rfl, rfl, ht⟩, hb⟩
  | error y =>
    obtain ⟨k, er⟩ := y
    refine (all_bad hs hb w).mono ?_
    rintro e w' ⟨g, rfl, hf, hb⟩
    exact ⟨_, _, rfl, ⟨g, rfl, rfl, hf⟩, hb⟩
def place : Except (Nat × Nat) (List P.Tok) → Nat
  | .ok _ => 0
  | .error (k, _) => k
def errno : Except (Nat × Nat) (List P.Tok) → Nat
  | .ok _ => 0
  | .error (_, e) => e
theorem fault_out {r : Except (Nat × Nat) (List P.Tok)} {v x : Value} (w : World) (h : Out w r v x) (hg : Handle w) :
    Calls Tryd.prog 14 #[x] w fun e w' => e = .returned (.tuple #[.int .i64 ((place r : Nat) : Int), .int .i64 ((errno r : Nat) : Int)]) ∧ Below w.heap.size w w' := by
  cases r with
  | ok l =>
    obtain ⟨g, cap, h1, rfl, h3⟩ := h
    refine (fault_nil w).mono ?_
    rintro e w' ⟨rfl, rfl⟩
    exact ⟨rfl, Below.refl _ _⟩
  | error y =>
    obtain ⟨k, er⟩ := y
    obtain ⟨g, h1, rfl, h3⟩ := h
    exact fault_at g k er w h3 hg
/-- The nine bytes from which names are made. -/
theorem nine (r : Nat) (h : r < (⟨#[97, 98, 122, 65, 90, 95, 48, 53, 57]⟩ : ByteArray).size) : P.inner ((⟨#[97, 98, 122, 65, 90, 95, 48, 53, 57]⟩ : ByteArray)[r]'h).toNat = true := by
  match r, h with
  | 0, _ => rfl
  | 1, _ => rfl
  | 2, _ => rfl
  | 3, _ => rfl
  | 4, _ => rfl
  | 5, _ => rfl
  | 6, _ => rfl
  | 7, _ => rfl
  | 8, _ => rfl

/-- What is left of a sequence behind its first k statements. -/
def tail : Nat → Code → Code
  | 0, c => c
  | k + 1, .seq _ b => tail k b
  | _, c => c

def strLen : Value → Nat
  | .string b => b.size
  | _ => 0
theorem sl_from (b : ByteArray) (h : 1 ≤ b.size) (w : World) : (Instr.slice 9 (.string b) (some (.int .i64 1)) none none).run Tryd.prog w = .ok (.string (b.extract 1 b.size)) w := by
  rw [run_slice_string_from_if w 9 b .i64 1 Tryd.underlying9, if_pos ⟨by decide, by omega⟩]
  rfl
theorem conv_five (d4 d3 d2 d1 d0 : Nat) (b4 : d4 ≤ 9) (b3 : d3 ≤ 9) (b2 : d2 ≤ 9) (b1 : d1 ≤ 9) (b0 : d0 ≤ 9) (w : World) (k : Nat) (h4 : w.cell? ⟨k, 0, none⟩ = some (.int .u8 (48 + (d4 : Int)))) (h3 : w.cell? ⟨k, 1, none⟩ = some (.int .u8 (48 + (d3 : Int)))) (h2 : w.cell? ⟨k, 2, none⟩ = some (.int .u8 (48 + (d2 : Int)))) (h1 : w.cell? ⟨k, 3, none⟩ = some (.int .u8 (48 + (d1 : Int)))) (h0 : w.cell? ⟨k, 4, none⟩ = some (.int .u8 (48 + (d0 : Int)))) :
    (convert 41 9 (.slice (some ⟨k, 0, none⟩) 5 5)).run Tryd.prog w = .ok (.string ⟨#[UInt8.ofNat (48 + d4), UInt8.ofNat (48 + d3), UInt8.ofNat (48 + d2), UInt8.ofNat (48 + d1), UInt8.ofNat (48 + d0)]⟩) w := by
  have hc : ∀ d : Nat, d ≤ 9 → ((UInt8.ofNat (48 + d)).toNat : Int) = 48 + (d : Int) := fun d hd => by
    rw [UInt8.toNat_ofNat', Nat.mod_eq_of_lt (by omega)]
    omega
  refine run_convert_bytes_back w _ _ 5 _ 5 [UInt8.ofNat (48 + d4), UInt8.ofNat (48 + d3), UInt8.ofNat (48 + d2), UInt8.ofNat (48 + d1), UInt8.ofNat (48 + d0)] Tryd.underlying41 Tryd.underlying5 Tryd.underlying9 ?_
  intro j hj
  have he : (({ block := k, off := 0 } : Addr).add j) = ⟨k, j, none⟩ := by simp [Addr.add]; exact Eq.symm
  rw [he]
  match j, hj with
  | 0, _ => rw [h4]; exact (congrArg (fun x => some (Value.int .u8 x)) (hc d4 b4)).symm
  | 1, _ => rw [h3]; exact (congrArg (fun x => some (Value.int .u8 x)) (hc d3 b3)).symm
  | 2, _ => rw [h2]; exact (congrArg (fun x => some (Value.int .u8 x)) (hc d2 b2)).symm
  | 3, _ => rw [h1]; exact (congrArg (fun x => some (Value.int .u8 x)) (hc d1 b1)).symm
  | 4, _ => rw [h0]; exact (congrArg (fun x => some (Value.int .u8 x)) (hc d0 b0)).symm

set_option maxRecDepth 100000 in
set_option maxHeartbeats 1000000 in
theorem ph3 (n : Int) (hn : -9223372036854775808 ≤ n ∧ n ≤ 9223372036854775807) (w w3 : World) (hg : Handle w) (hb3 : Below w.heap.size w w3) (u0 u1 u3 u4 u5 u6 u8 u9 u10 u11 u12 u13 u14 u15 u16 u17 u18 u19 u20 u21 u22 u23 u24 u25 u26 u27 u28 u29 u30 u31 u32 u33 u34 u35 u36 u37 u38 u39 u40 u41 u42 u43 u44 u45 u46 u47 u48 u49 u50 u51 u52 u53 u54 u55 u56 u57 u58 u59 u60 u61 u62 u63 u64 u65 u66 u67 u68 u69 u70 u71 u72 u73 u74 u75 u76 u77 u78 u79 u80 u81 u82 u83 u84 u85 u86 u87 u88 u89 u90 u91 u92 u93 u94 u95 u96 u97 u98 u99 u100 u101 u102 u103 u104 u105 u106 u107 u108 u109 u110 u111 u112 u113 u114 u115 u116 u117 u118 u119 u120 u121 u122 u123 u124 u125 u126 u127 u128 u129 u130 u131 u132 u133 u134 u135 u136 u137 u138 u139 u140 u141 u142 u143 u144 u145 u146 u147 u148 u149 u150 u151 u152 u153 u154 u155 u156 u157 u158 u159 u160 u161 u162 u163 u164 u165 u166 u167 u168 u169 u170 u171 u172 u173 u174 u175 u176 u177 u178 u179 u180 u181 u182 u183 u184 u185 u186 u187 u188 u189 u190 u191 u192 u193 u194 u195 u196 u197 u198 u199 u200 u201 u202 u203 u204 u205 u206 u207 u208 u209 u210 u211 u212 u213 u214 u215 : Value) :
    Code.wp Tryd.prog (tail 9 (Tryd.f7.body.getD .skip)) (bodyPost Tryd.prog Tryd.f7 fun e w' => e = .returned (.bool true) ∧ Below w.heap.size w w') { tmps := #[u0, u1, .int .i64 n, u3, u4, u5, u6, .bool true, u8, u9, u10, u11, u12, u13, u14, u15, u16, u17, u18, u19, u20, u21, u22, u23, u24, u25, u26, u27, u28, u29, u30, u31, u32, u33, u34, u35, u36, u37, u38, u39, u40, u41, u42, u43, u44, u45, u46, u47, u48, u49, u50, u51, u52, u53, u54, u55, u56, u57, u58, u59, u60, u61, u62, u63, u64, u65, u66, u67, u68, u69, u70, u71, u72, u73, u74, u75, u76, u77, u78, u79, u80, u81, u82, u83, u84, u85, u86, u87, u88, u89, u90, u91, u92, u93, u94, u95, u96, u97, u98, u99, u100, u101, u102, u103, u104, u105, u106, u107, u108, u109, u110, u111, u112, u113, u114, u115, u116, u117, u118, u119, u120, u121, u122, u123, u124, u125, u126, u127, u128, u129, u130, u131, u132, u133, u134, u135, u136, u137, u138, u139, u140, u141, u142, u143, u144, u145, u146, u147, u148, u149, u150, u151, u152, u153, u154, u155, u156, u157, u158, u159, u160, u161, u162, u163, u164, u165, u166, u167, u168, u169, u170, u171, u172, u173, u174, u175, u176, u177, u178, u179, u180, u181, u182, u183, u184, u185, u186, u187, u188, u189, u190, u191, u192, u193, u194, u195, u196, u197, u198, u199, u200, u201, u202, u203, u204, u205, u206, u207, u208, u209, u210, u211, u212, u213, u214, u215], defers := [] } w3 := by
  have HG := Lib.hid hg
  have HB3 := Lib.hid hb3
  clear hg hb3
  conv => arg 2; simp only [Tryd.f7, Option.getD_some, tail]
  go_upto_if 109 with fail
  go_cut [2] from 26 (fun s2 wc => ∃ N : Nat, N < 20000 ∧ s2 = .int .i64 ((if n < 0 then -(n + 1) else n)) ∧ (if n < 0 then -(n + 1) else n).tmod 20000 = (N : Int) ∧ wc = w3)
  case first =>
    by_cases hneg : n < 0
    · have hm : ∃ N : Nat, N < 20000 ∧ (-(n + 1)).tmod 20000 = (N : Int) := by
        have e1 := Int.tmod_eq_emod_of_nonneg (b := 20000) (show 0 ≤ -(n + 1) by omega)
        exact ⟨((-(n + 1)) % 20000).toNat, by omega, by omega⟩
      obtain ⟨N, h1, h2⟩ := hm
      have hd : decide (n < 0) = true := decide_eq_true hneg
      have H2 := Lib.hid h2
      clear h2
      go_wp2_with fail
      go_meet
      case rel => exact ⟨N, h1, by rw [if_pos hneg], by rw [if_pos hneg]; exact H2.out, rfl⟩
    · have hm : ∃ N : Nat, N < 20000 ∧ n.tmod 20000 = (N : Int) := by
        have e1 := Int.tmod_eq_emod_of_nonneg (b := 20000) (show 0 ≤ n by omega)
        exact ⟨(n % 20000).toNat, by omega, by omega⟩
      obtain ⟨N, h1, h2⟩ := hm
      have hd : decide (n < 0) = false := decide_eq_false hneg
      have H2 := Lib.hid h2
      clear h2
      go_wp2_with fail
      go_meet
      case rel => exact ⟨N, h1, by rw [if_neg (by omega)], by rw [if_neg (by omega)]; exact H2.out, rfl⟩
  case rest =>
  obtain ⟨N, hN, rfl, hm, h3⟩ := hcut
  obtain rfl : w3 = wc := h3.symm
  generalize (if n < 0 then -(n + 1) else n) = n1 at hm ⊢
  clear hn
  obtain ⟨d4, hd4⟩ : ∃ d, N / 10000 = d := ⟨_, rfl⟩
  obtain ⟨q3, hq3⟩ : ∃ d, N / 1000 = d := ⟨_, rfl⟩
  obtain ⟨d3, hd3⟩ : ∃ d, q3 % 10 = d := ⟨_, rfl⟩
  obtain ⟨q2, hq2⟩ : ∃ d, N / 100 = d := ⟨_, rfl⟩
  obtain ⟨d2, hd2⟩ : ∃ d, q2 % 10 = d := ⟨_, rfl⟩
  obtain ⟨q1, hq1⟩ : ∃ d, N / 10 = d := ⟨_, rfl⟩
  obtain ⟨d1, hd1⟩ : ∃ d, q1 % 10 = d := ⟨_, rfl⟩
  obtain ⟨d0, hd0⟩ : ∃ d, N % 10 = d := ⟨_, rfl⟩
  have t4 : ((N : Nat) : Int).tdiv 10000 = (d4 : Int) := by rw [Int.tdiv_eq_ediv_of_nonneg (by omega)]; omega
  have t3 : ((N : Nat) : Int).tdiv 1000 = (q3 : Int) := by rw [Int.tdiv_eq_ediv_of_nonneg (by omega)]; omega
  have m3 : ((q3 : Nat) : Int).tmod 10 = (d3 : Int) := by rw [Int.tmod_eq_emod_of_nonneg (by omega)]; omega
  have t2 : ((N : Nat) : Int).tdiv 100 = (q2 : Int) := by rw [Int.tdiv_eq_ediv_of_nonneg (by omega)]; omega
  have m2 : ((q2 : Nat) : Int).tmod 10 = (d2 : Int) := by rw [Int.tmod_eq_emod_of_nonneg (by omega)]; omega
  have t1 : ((N : Nat) : Int).tdiv 10 = (q1 : Int) := by rw [Int.tdiv_eq_ediv_of_nonneg (by omega)]; omega
  have m1 : ((q1 : Nat) : Int).tmod 10 = (d1 : Int) := by rw [Int.tmod_eq_emod_of_nonneg (by omega)]; omega
  have m0 : ((N : Nat) : Int).tmod 10 = (d0 : Int) := by rw [Int.tmod_eq_emod_of_nonneg (by omega)]; omega
  have c3 : q3 ≤ 19 := by omega
  have c2 : q2 ≤ 199 := by omega
  have c1 : q1 ≤ 1999 := by omega
  have b4 : d4 ≤ 9 := by omega
  have b3 : d3 ≤ 9 := by omega
  have b2 : d2 ≤ 9 := by omega
  have b1 : d1 ≤ 9 := by omega
  have b0 : d0 ≤ 9 := by omega
  have e5 : P.five N = ⟨#[UInt8.ofNat (48 + d4), UInt8.ofNat (48 + d3), UInt8.ofNat (48 + d2), UInt8.ofNat (48 + d1), UInt8.ofNat (48 + d0)]⟩ := by
    unfold P.five
    rw [hd4, hq3, hd3, hq2, hd2, hq1, hd1, hd0]
  have hcv := conv_five d4 d3 d2 d1 d0 b4 b3 b2 b1 b0
  rw [← e5] at hcv
  have HE := Lib.hid e5
  clear e5 hd4 hq3 hd3 hq2 hd2 hq1 hd1 hd0
  go_wp2_with fail
  clear hcv t4 t3 m3 t2 m2 t1 m1 m0 c3 c2 c1 b4 b3 b2 b1 b0 hm
  go_loopw [17] (fun s wr => ∃ D : ByteArray, s = .string D ∧ 0 < D.size ∧ D.size ≤ 5 ∧ (∀ x, x < D.size → P.digit (P.byt D x) = true) ∧ P.num D 0 D.size = N ∧ Below w.heap.size w wr) (fun s _ => strLen s)
  case atStart => exact ⟨P.five N, rfl, by rw [P.five_size]; decide, by rw [P.five_size]; decide, P.five_digits N hN, P.five_num N hN, HB3.out.alloc HB3.out.size _⟩
  case round =>
    obtain ⟨D, rfl, hs0, hs5, hdg, hnm, hbw⟩ := hrel
    have HW := Lib.hid hbw
    have HD := Lib.hid hdg
    have HM := Lib.hid hnm
    have hsc := P.scan_digits hs0 (by omega) hdg
    have hix : ∀ w : World, (Instr.index 9 (.string D) (.int .i64 0)).run Tryd.prog w = .ok (.int .u8 ((P.byt D 0 : Nat) : Int)) w := fun w => ix_byte D 0 hs0 w
    have hs0i : (0 : Int) < (D.size : Int) := by omega
    clear hbw hdg hnm
    by_cases hz : 1 < D.size ∧ P.byt D 0 = 48
    · rw [if_pos (.inl hz)] at hsc
      have f1 : decide ((1 : Int) < (D.size : Int)) = true := decide_eq_true (by omega)
      have f2 : (((P.byt D 0 : Nat) : Int) == 48) = true := by rw [beq_iff_eq]; omega
      have HZ := Lib.hid hz
      have HS := Lib.hid hsc
      have hsl := sl_from D (by omega)
      clear hz hsc
      go_wp2_with fail
      refine (all_bad HS.out (by omega) _).mono ?_
      rintro e w4 ⟨g, rfl, hf, hb4⟩
      have HB4 := Lib.hid (HW.out.trans (hb4.mono HW.out.size))
      have HF := Lib.hid hf
      clear hb4 hf
      go_wp2_with fail
      refine (fault_at g 0 4 _ HF.out (HG.out.on HB4.out)).mono ?_
      rintro e w5 ⟨rfl, hb5⟩
      have HB5 := Lib.hid (HB4.out.trans (hb5.mono HB4.out.size))
      clear hb5
      go_wp2_with fail
      go_roundw
      case rel => exact ⟨D.extract 1 D.size, rfl, by rw [P.size_tail]; have := HZ.out; omega, by rw [P.size_tail]; omega, fun x hx => by rw [P.size_tail] at hx; rw [P.byt_tail hx]; exact HD.out _ (by omega), by rw [P.size_tail, P.num_tail HZ.out.1 HZ.out.2]; exact HM.out, HB5.out⟩
      case measure => have := HZ.out; simp [strLen]; omega
    · have HZ := Lib.hid hz
      have HMM := Lib.hid HM.out
      have f12 : (decide ((1 : Int) < (D.size : Int)) = false) ∨ (decide ((1 : Int) < (D.size : Int)) = true ∧ (((P.byt D 0 : Nat) : Int) == 48) = false) := by
        by_cases h1 : 1 < D.size
        · right
          refine ⟨decide_eq_true (by omega), ?_⟩
          rw [beq_eq_false_iff_ne]
          intro e
          exact hz ⟨h1, by omega⟩
        · left
          exact decide_eq_false (by omega)
      by_cases hbig : 9999 < N
      · have hsc2 : P.scanAll D = .error (0, 4) := by rw [hsc, if_pos (.inr (by rw [HM.out]; exact hbig))]
        have HS := Lib.hid hsc2
        have f3 : decide ((9999 : Int) < (N : Int)) = true := decide_eq_true (by omega)
        clear hz hsc hsc2
        rcases f12 with f1 | ⟨f1, f2⟩
        all_goals
          go_wp2_with fail
          refine (all_bad HS.out (by omega) _).mono ?_
          rintro e w4 ⟨g, rfl, hf, hb4⟩
          have HB4 := Lib.hid (HW.out.trans (hb4.mono HW.out.size))
          have HF := Lib.hid hf
          clear hb4 hf
          go_wp2_with fail
          refine (fault_at g 0 4 _ HF.out (HG.out.on HB4.out)).mono ?_
          rintro e w5 ⟨rfl, hb5⟩
          have HB5 := Lib.hid (HB4.out.trans (hb5.mono HB4.out.size))
          clear hb5
          go_wp2_with fail
          go_ret
          exact ⟨rfl, HB5.out⟩
      · have hsc2 : P.scanAll D = .ok [⟨4, 0, D, N⟩, ⟨0, D.size, ByteArray.empty, 0⟩] := by
          rw [hsc, if_neg (by rw [HM.out]; intro h; rcases h with h | h; exact hz h; exact hbig h), HM.out]
        have HS := Lib.hid hsc2
        have f3 : decide ((9999 : Int) < (N : Int)) = false := decide_eq_false (by omega)
        clear hz hsc hsc2
        rcases f12 with f1 | ⟨f1, f2⟩
        all_goals
          go_wp2_with fail
          refine (all_ok HS.out (by omega) _).mono ?_
          rintro e w4 ⟨g, cap, rfl, _, _, ht, hb4⟩
          have HB4 := Lib.hid (HW.out.trans (hb4.mono HW.out.size))
          have a0 : w4.cell? ⟨g, 0, none⟩ = some (.int .i64 4) := ht.c 0 _ rfl 0 _ rfl
          have a1 : w4.cell? ⟨g, 1, none⟩ = some (.int .i64 0) := ht.c 0 _ rfl 1 _ rfl
          have a2 : w4.cell? ⟨g, 2, none⟩ = some (.string D) := ht.c 0 _ rfl 2 _ rfl
          have a3 : w4.cell? ⟨g, 3, none⟩ = some (.int .i64 (N : Int)) := ht.c 0 _ rfl 3 _ rfl
          clear hb4 ht
          simp only [List.length_cons, List.length_nil, Nat.zero_add, Nat.reduceAdd]
          go_wp2_with fail
          refine (fault_nil _).mono ?_
          rintro e w5 ⟨rfl, h5⟩
          obtain rfl : w4 = w5 := h5.symm
          go_wp2_with fail
          go_ret
          exact ⟨rfl, HB4.out⟩
end W
end Go.Proofs.YtbimjejidlohnaaDoor
