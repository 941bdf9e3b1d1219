/- ScanJoins: two texts, one behind the other, with a line feed between. -/
import Derived.Test.YtbimjejidlohnaaDoorUpTo
import Derived.Test.YtbimjejidlohnaaDoorJoin
import Derived.Deep.QuietTactic
import Derived.BigQuiet
import Derived.Lib.QuietBelow
import Derived.Laws.Concat
namespace Go.Proofs.YtbimjejidlohnaaDoor
open Go.RowKit
namespace W
open Go.Sort (grow)

theorem cat_any (w : World) (x y : ByteArray) (h : x.size + y.size ≤ 9223372036854775807) : (binOp .add 9 (.string x) (.string y)).run Tryd.prog w = .ok (.string (x ++ y)) w := by
  rw [binOp_string_add]
  have e : IntKind.i64.max = 9223372036854775807 := by decide
  simp only [Op.stringOp, e]
  rw [if_neg (by omega)]
  rfl
/-- Whatever a text is. -/
theorem all_some (b : ByteArray) (hb : b.size ≤ 281474976710656) (w : World) :
    Calls Tryd.prog 12 #[.string b] w fun e w' => ∃ v x, e = .returned (.tuple #[v, x]) ∧ Below w.heap.size w w' := by
  refine (all_any b hb w).mono ?_
  rintro e w' ⟨h, hb⟩
  cases hs : P.scanAll b with
  | ok l =>
    rw [hs] at h
    obtain ⟨v, rfl, _⟩ := h
    exact ⟨_, _, rfl, hb⟩
  | error x =>
    obtain ⟨k, er⟩ := x
    rw [hs] at h
    obtain ⟨g, rfl, _⟩ := h
    exact ⟨_, _, rfl, hb⟩

set_option maxRecDepth 100000 in
set_option maxHeartbeats 1000000 in
theorem joins_big (a b : ByteArray) (ha : a.size ≤ 140737488351232) (hb : b.size ≤ 140737488351232) (h : 262144 < a.size + 1 + b.size) (w : World) (hg : Handle w) : Calls Tryd.prog 6 #[.string a, .string b] w fun e w' => e = .returned (.bool true) ∧ Below w.heap.size w w' := by
  have HS := Lib.hid (P.join_big a b h)
  have hc1 : ∀ w : World, (binOp .add 9 (.string a) (.string ⟨#[10]⟩)).run Tryd.prog w = .ok (.string (a ++ P.nl)) w := fun w => cat_any w a P.nl (by show a.size + 1 ≤ _; omega)
  have hc2 : ∀ w : World, (binOp .add 9 (.string (a ++ P.nl)) (.string b)).run Tryd.prog w = .ok (.string (a ++ P.nl ++ b)) w := fun w => cat_any w (a ++ P.nl) b (by rw [ByteArray.size_append]; show a.size + 1 + b.size ≤ _; omega)
  have hd : decide ((262144 : Int) < (a.size : Int) + 1 + (b.size : Int)) = true := decide_eq_true (by omega)
  go_enter Tryd.func6, Tryd.ntmps6
  go_wp2_with fail
  have HG := Lib.hid hg
  clear hg
  refine (shown_any _ HG.out).mono ?_
  rintro e w1 ⟨rfl, hb1⟩
  have HB1 := Lib.hid hb1
  clear hb1
  go_wp2_with fail
  refine (all_some _ (by omega) _).mono ?_
  rintro e w2 ⟨v2, x2, rfl, hb2⟩
  have HB2 := Lib.hid (HB1.out.trans (hb2.mono HB1.out.size))
  clear hb2
  go_wp2_with fail
  refine (all_some _ (by omega) _).mono ?_
  rintro e w3 ⟨v3, x3, rfl, hb3⟩
  have HB3 := Lib.hid (HB2.out.trans (hb3.mono HB2.out.size))
  clear hb3
  go_wp2_with fail
  refine (all_bad HS.out (by rw [P.join_size]; omega) _).mono ?_
  rintro e w4 ⟨g4, rfl, hf4, hb4⟩
  have HB4 := Lib.hid (HB3.out.trans (hb4.mono HB3.out.size))
  have HF4 := Lib.hid hf4
  clear hf4 hb4
  go_wp2_with fail
  refine (fault_at g4 262144 2 _ HF4.out (HG.out.on HB4.out)).mono ?_
  rintro e w5 ⟨rfl, hb5⟩
  have HB5 := Lib.hid (HB4.out.trans (hb5.mono HB4.out.size))
  clear hb5
  go_wp2_with fail
  go_ret
  exact ⟨rfl, HB5.out⟩
set_option maxRecDepth 100000 in
set_option maxHeartbeats 1000000 in
theorem joins_first (a b : ByteArray) (ha : a.size ≤ 140737488351232) (hb : b.size ≤ 140737488351232) (h : a.size + 1 + b.size ≤ 262144) (k er : Nat) (hs : P.scanAll a = .error (k, er)) (w : World) (hg : Handle w) : Calls Tryd.prog 6 #[.string a, .string b] w fun e w' => e = .returned (.bool true) ∧ Below w.heap.size w w' := by
  have hz : P.scanAll (a ++ P.nl ++ b) = .error (k, er) := by rw [P.join_scan a b h, hs]
  have HS := Lib.hid hs
  have HZ := Lib.hid hz
  clear hs hz
  have hc1 : ∀ w : World, (binOp .add 9 (.string a) (.string ⟨#[10]⟩)).run Tryd.prog w = .ok (.string (a ++ P.nl)) w := fun w => cat_any w a P.nl (by show a.size + 1 ≤ _; omega)
  have hc2 : ∀ w : World, (binOp .add 9 (.string (a ++ P.nl)) (.string b)).run Tryd.prog w = .ok (.string (a ++ P.nl ++ b)) w := fun w => cat_any w (a ++ P.nl) b (by rw [ByteArray.size_append]; show a.size + 1 + b.size ≤ _; omega)
  have hd : decide ((262144 : Int) < (a.size : Int) + 1 + (b.size : Int)) = false := decide_eq_false (by omega)
  go_enter Tryd.func6, Tryd.ntmps6
  go_wp2_with fail
  have HG := Lib.hid hg
  clear hg
  refine (shown_any _ HG.out).mono ?_
  rintro e w1 ⟨rfl, hb1⟩
  have HB1 := Lib.hid hb1
  clear hb1
  go_wp2_with fail
  refine (all_bad HS.out (by omega) _).mono ?_
  rintro e w2 ⟨g2, rfl, hf2, hb2⟩
  have HB2 := Lib.hid (HB1.out.trans (hb2.mono HB1.out.size))
  have HF2 := Lib.hid hf2
  clear hf2 hb2
  go_wp2_with fail
  refine (all_some _ (by omega) _).mono ?_
  rintro e w3 ⟨v3, x3, rfl, hb3⟩
  have HB3 := Lib.hid (HB2.out.trans (hb3.mono HB2.out.size))
  have HF3 := Lib.hid (HF2.out.on hb3)
  clear hb3
  go_wp2_with fail
  refine (all_bad HZ.out (by rw [P.join_size]; omega) _).mono ?_
  rintro e w4 ⟨g4, rfl, hf4, hb4⟩
  have HB4 := Lib.hid (HB3.out.trans (hb4.mono HB3.out.size))
  have HF4 := Lib.hid hf4
  have HF3b := Lib.hid (HF3.out.on hb4)
  clear hf4 hb4
  go_wp2_with fail
  refine (fault_at g4 k er _ HF4.out (HG.out.on HB4.out)).mono ?_
  rintro e w5 ⟨rfl, hb5⟩
  have HB5 := Lib.hid (HB4.out.trans (hb5.mono HB4.out.size))
  have HF5 := Lib.hid (HF3b.out.on hb5)
  clear hb5
  go_wp2_with fail
  refine (fault_at g2 k er _ HF5.out (HG.out.on HB5.out)).mono ?_
  rintro e w6 ⟨rfl, hb6⟩
  have HB6 := Lib.hid (HB5.out.trans (hb6.mono HB5.out.size))
  clear hb6
  go_wp2_with fail
  go_ret
  exact ⟨rfl, HB6.out⟩
set_option maxRecDepth 100000 in
set_option maxHeartbeats 1000000 in
theorem joins_second (a b : ByteArray) (ha : a.size ≤ 140737488351232) (hb : b.size ≤ 140737488351232) (h : a.size + 1 + b.size ≤ 262144) (l : List P.Tok) (hs : P.scanAll a = .ok l) (k er : Nat) (hs2 : P.scanAll b = .error (k, er)) (w : World) (hg : Handle w) : Calls Tryd.prog 6 #[.string a, .string b] w fun e w' => e = .returned (.bool true) ∧ Below w.heap.size w w' := by
  have hz : P.scanAll (a ++ P.nl ++ b) = .error (a.size + 1 + k, er) := by rw [P.join_scan a b h, hs, hs2]
  have hk : k ≤ 262144 := by rcases P.scanAll_upto hs2 with h | h <;> omega
  have HS := Lib.hid hs
  have HS2 := Lib.hid hs2
  have HZ := Lib.hid hz
  clear hs hs2 hz
  have hc1 : ∀ w : World, (binOp .add 9 (.string a) (.string ⟨#[10]⟩)).run Tryd.prog w = .ok (.string (a ++ P.nl)) w := fun w => cat_any w a P.nl (by show a.size + 1 ≤ _; omega)
  have hc2 : ∀ w : World, (binOp .add 9 (.string (a ++ P.nl)) (.string b)).run Tryd.prog w = .ok (.string (a ++ P.nl ++ b)) w := fun w => cat_any w (a ++ P.nl) b (by rw [ByteArray.size_append]; show a.size + 1 + b.size ≤ _; omega)
  have hd : decide ((262144 : Int) < (a.size : Int) + 1 + (b.size : Int)) = false := decide_eq_false (by omega)
  go_enter Tryd.func6, Tryd.ntmps6
  go_wp2_with fail
  have HG := Lib.hid hg
  clear hg
  refine (shown_any _ HG.out).mono ?_
  rintro e w1 ⟨rfl, hb1⟩
  have HB1 := Lib.hid hb1
  clear hb1
  go_wp2_with fail
  refine (all_ok HS.out (by omega) _).mono ?_
  rintro e w2 ⟨g1, cap1, rfl, _, _, _, hb2⟩
  have HB2 := Lib.hid (HB1.out.trans (hb2.mono HB1.out.size))
  clear hb2
  go_wp2_with fail
  refine (all_bad HS2.out (by omega) _).mono ?_
  rintro e w3 ⟨g3, rfl, hf3, hb3⟩
  have HB3 := Lib.hid (HB2.out.trans (hb3.mono HB2.out.size))
  have HF3 := Lib.hid hf3
  clear hf3 hb3
  go_wp2_with fail
  refine (all_bad HZ.out (by rw [P.join_size]; omega) _).mono ?_
  rintro e w4 ⟨g4, rfl, hf4, hb4⟩
  have HB4 := Lib.hid (HB3.out.trans (hb4.mono HB3.out.size))
  have HF4 := Lib.hid hf4
  have HF3b := Lib.hid (HF3.out.on hb4)
  clear hf4 hb4
  go_wp2_with fail
  refine (fault_at g4 (a.size + 1 + k) er _ HF4.out (HG.out.on HB4.out)).mono ?_
  rintro e w5 ⟨rfl, hb5⟩
  have HB5 := Lib.hid (HB4.out.trans (hb5.mono HB4.out.size))
  have HF5 := Lib.hid (HF3b.out.on hb5)
  clear hb5
  rw [show (((a.size + 1 + k : Nat)) : Int) = (a.size : Int) + 1 + (k : Int) by omega]
  go_wp2_with fail
  refine (fault_at g3 k er _ HF5.out (HG.out.on HB5.out)).mono ?_
  rintro e w6 ⟨rfl, hb6⟩
  have HB6 := Lib.hid (HB5.out.trans (hb6.mono HB5.out.size))
  clear hb6
  go_wp2_with fail
  go_ret
  exact ⟨rfl, HB6.out⟩

theorem sl_head (w : World) (g n cap k : Nat) (hk : k ≤ cap) : (Instr.slice 23 (.slice (some ⟨g, 0, none⟩) n cap) none (some (.int .i64 (k : Int))) none).run Tryd.prog w = .ok (.slice (some ⟨g, 0, none⟩) k cap) w := by
  have he : Tryd.prog.elem 23 = 35 := by simp [Program.elem, Tryd.underlying23]
  have hz : ∀ w : World, (sizeOf 35).run Tryd.prog w = .ok 4 w := fun w => by kernel_rfl
  rw [run_slice_h (P := Tryd.prog) (w := w) (t := 23) (ht := by rw [he]; exact Tryd.underlying23) (kh := .i64) (h := (k : Int)) (h0 := by omega) (h2 := by omega), he, hz]
  simp [Result.andThen, sliced, Addr.add]
theorem sl_tail (w : World) (g n cap k : Nat) (x : Int) (hx : x = (k : Int)) (hk : k < n) (hn : n ≤ cap) : (Instr.slice 23 (.slice (some ⟨g, 0, none⟩) n cap) (some (.int .i64 x)) none none).run Tryd.prog w = .ok (.slice (some ⟨g, k * 4, none⟩) (n - k) (cap - k)) w := by
  subst hx
  have he : Tryd.prog.elem 23 = 35 := by simp [Program.elem, Tryd.underlying23]
  have hz : ∀ w : World, (sizeOf 35).run Tryd.prog w = .ok 4 w := fun w => by kernel_rfl
  rw [run_slice_l (P := Tryd.prog) (w := w) (t := 23) (ht := by rw [he]; exact Tryd.underlying23) (kl := .i64) (l := (k : Int)) (h0 := by omega) (h1 := by omega), he, hz]
  have hne : ¬ cap = k := by omega
  simp only [Result.andThen, sliced, Int.toNat_natCast, if_neg hne, Option.map_some, Addr.add]
  by_cases h0 : k * 4 = 0
  · rw [if_pos h0, h0]
  · rw [if_neg h0, Nat.zero_add]
theorem View.part {w : World} {g : Nat} {l p : List P.Tok} (h : Toks w g l) (o cap : Nat) (hp : ∀ i t, p[i]? = some t → l[o + i]? = some t) : View w (.slice (some ⟨g, o * 4, none⟩) p.length cap) p :=
  ⟨_, cap, rfl, .inr ⟨g, o * 4, rfl, h.lt, fun i t ht j u hu => by rw [show o * 4 + i * 4 + j = (o + i) * 4 + j by omega]; exact h.c (o + i) t (hp i t ht) j u hu⟩⟩
set_option maxRecDepth 100000 in
set_option maxHeartbeats 1000000 in
theorem joins_ok (a b : ByteArray) (ha : a.size ≤ 140737488351232) (hb : b.size ≤ 140737488351232) (h : a.size + 1 + b.size ≤ 262144) (l : List P.Tok) (hs : P.scanAll a = .ok l) (m : List P.Tok) (hs2 : P.scanAll b = .ok m) (w : World) (hg : Handle w) : Calls Tryd.prog 6 #[.string a, .string b] w fun e w' => e = .returned (.bool true) ∧ Below w.heap.size w w' := by
  have hz : P.scanAll (a ++ P.nl ++ b) = .ok (l.dropLast ++ (⟨1, a.size, P.nl, 0⟩ :: m.map (shift (a.size + 1)))) := by rw [P.join_scan a b h, hs, hs2]
  have hl1 := P.scanAll_len hs
  have hl2 := P.scanAll_len hs2
  have hp1 := scanAll_ne hs
  have hp2 := scanAll_ne hs2
  have hplA : ∀ t ∈ l.dropLast, t.place + 0 ≤ 1152921504606846976 := fun t ht => by
    obtain ⟨i, hi⟩ := List.getElem?_of_mem (List.dropLast_subset _ ht)
    have := (P.scanAll_cut hs hi).2.1
    omega
  have hplB : ∀ t ∈ m, t.place + (a.size + 1) ≤ 1152921504606846976 := fun t ht => by
    obtain ⟨i, hi⟩ := List.getElem?_of_mem ht
    have := (P.scanAll_cut hs2 hi).2.1
    omega
  obtain ⟨kk, hkk⟩ : ∃ kk, l.length = kk + 1 := ⟨l.length - 1, by omega⟩
  obtain ⟨n2, hn2⟩ : ∃ n2, m.length = n2 := ⟨_, rfl⟩
  have hdl : l.dropLast.length = kk := by rw [List.length_dropLast, hkk]; rfl
  have hzl : (l.dropLast ++ (⟨1, a.size, P.nl, 0⟩ :: m.map (shift (a.size + 1)))).length = kk + 1 + n2 := by
    rw [List.length_append, List.length_cons, List.length_map, hdl, hn2]
    omega
  have hdg : ∀ i t, l.dropLast[i]? = some t → l[0 + i]? = some t := fun i t ht => by
    rw [Nat.zero_add]
    rw [List.getElem?_dropLast] at ht
    split at ht
    · exact ht
    · cases ht
  have hdg2 : ∀ i t, l.dropLast[i]? = some t → (l.dropLast ++ (⟨1, a.size, P.nl, 0⟩ :: m.map (shift (a.size + 1))))[0 + i]? = some t := fun i t ht => by
    rw [Nat.zero_add, List.getElem?_append_left (List.getElem?_eq_some_iff.1 ht).1]
    exact ht
  have hmid : (l.dropLast ++ (⟨1, a.size, P.nl, 0⟩ :: m.map (shift (a.size + 1))))[kk]? = some ⟨1, a.size, P.nl, 0⟩ := by
    rw [List.getElem?_append_right (by omega), hdl, Nat.sub_self]
    rfl
  have hend : ∀ i t, (m.map (shift (a.size + 1)))[i]? = some t → (l.dropLast ++ (⟨1, a.size, P.nl, 0⟩ :: m.map (shift (a.size + 1))))[kk + 1 + i]? = some t := fun i t ht => by
    rw [List.getElem?_append_right (by omega), hdl, show kk + 1 + i - kk = i + 1 by omega]
    exact ht
  have HS := Lib.hid hs
  have HS2 := Lib.hid hs2
  have HZ := Lib.hid hz
  rw [hkk] at hl1
  rw [hn2] at hl2 hp2
  have hk1 := hl1.1
  have hk2 := hl2.1
  have HKK := Lib.hid hkk
  have HN2 := Lib.hid hn2
  have HDL := Lib.hid hdl
  have HZL := Lib.hid hzl
  have HDG := Lib.hid hdg
  have HDG2 := Lib.hid hdg2
  have HMID := Lib.hid hmid
  have HEND := Lib.hid hend
  have HPA := Lib.hid hplA
  have HPB := Lib.hid hplB
  clear hs hs2 hz hkk hn2 hl1 hl2 hdl hzl hdg hdg2 hmid hend hplA hplB hp1
  have hc1 : ∀ w : World, (binOp .add 9 (.string a) (.string ⟨#[10]⟩)).run Tryd.prog w = .ok (.string (a ++ P.nl)) w := fun w => cat_any w a P.nl (by show a.size + 1 ≤ _; omega)
  have hc2 : ∀ w : World, (binOp .add 9 (.string (a ++ P.nl)) (.string b)).run Tryd.prog w = .ok (.string (a ++ P.nl ++ b)) w := fun w => cat_any w (a ++ P.nl) b (by rw [ByteArray.size_append]; show a.size + 1 + b.size ≤ _; omega)
  have hd : decide ((262144 : Int) < (a.size : Int) + 1 + (b.size : Int)) = false := decide_eq_false (by omega)
  go_enter Tryd.func6, Tryd.ntmps6
  go_wp2_with fail
  have HG := Lib.hid hg
  clear hg
  refine (shown_any _ HG.out).mono ?_
  rintro e w1 ⟨rfl, hb1⟩
  have HB1 := Lib.hid hb1
  clear hb1
  go_wp2_with fail
  refine (all_ok HS.out (by omega) _).mono ?_
  rintro e w2 ⟨g1, cap1, rfl, _, hc1', ht1, hb2⟩
  have HB2 := Lib.hid (HB1.out.trans (hb2.mono HB1.out.size))
  have HT1 := Lib.hid ht1
  rw [HKK.out] at hc1' ⊢
  clear hb2 ht1
  go_wp2_with fail
  refine (all_ok HS2.out (by omega) _).mono ?_
  rintro e w3 ⟨g2, cap2, rfl, _, hc2', ht2, hb3⟩
  have HB3 := Lib.hid (HB2.out.trans (hb3.mono HB2.out.size))
  have HT1b := Lib.hid (HT1.out.on hb3)
  have HT2 := Lib.hid ht2
  rw [HN2.out] at hc2' ⊢
  clear hb3 ht2
  go_wp2_with fail
  refine (all_ok HZ.out (by rw [P.join_size]; omega) _).mono ?_
  rintro e w4 ⟨g3, cap3, rfl, _, hc3', ht3, hb4⟩
  have HB4 := Lib.hid (HB3.out.trans (hb4.mono HB3.out.size))
  have HT1c := Lib.hid (HT1b.out.on hb4)
  have HT2c := Lib.hid (HT2.out.on hb4)
  have HT3 := Lib.hid ht3
  rw [HZL.out] at hc3' ⊢
  clear hb4 ht3
  go_wp2_with fail
  refine (fault_nil _).mono ?_
  rintro e w5 ⟨rfl, h5⟩
  obtain rfl : w4 = w5 := h5.symm
  have gn : decide ((0 : Int) < (kk : Int) + 1) = true := decide_eq_true (by omega)
  go_wp2_with fail
  have q1 := fun w : World => sl_head w g1 (kk + 1) cap1 kk (by omega)
  have q2 := fun w : World => sl_head w g3 (kk + 1 + n2) cap3 kk (by omega)
  have q3 : ∀ w : World, (Instr.slice 23 (.slice (some ⟨g3, 0, none⟩) (kk + 1 + n2) cap3) (some (.int .i64 ((kk : Int) + 1))) none none).run Tryd.prog w = .ok (.slice (some ⟨g3, (kk + 1) * 4, none⟩) n2 (cap3 - (kk + 1))) w := fun w => by
    have := sl_tail w g3 (kk + 1 + n2) cap3 (kk + 1) ((kk : Int) + 1) (by omega) (by omega) hc3'
    rw [show kk + 1 + n2 - (kk + 1) = n2 by omega] at this
    exact this
  have cm : ∀ j v, (tokCells ⟨1, a.size, P.nl, 0⟩)[j]? = some v → w4.cell? ⟨g3, kk * 4 + j, none⟩ = some v := HT3.out.c kk _ HMID.out
  have d0 : ∀ d os, (grow (redrawn w4 d) os).cell? ⟨g3, kk * 4, none⟩ = some (.int .i64 1) := fun d os => cell_regrown (cm 0 _ rfl) d os
  have d1 : ∀ d os, (grow (redrawn w4 d) os).cell? ⟨g3, kk * 4 + 1, none⟩ = some (.int .i64 (a.size : Int)) := fun d os => cell_regrown (cm 1 _ rfl) d os
  have d2 : ∀ d os, (grow (redrawn w4 d) os).cell? ⟨g3, kk * 4 + 2, none⟩ = some (.string ⟨#[10]⟩) := fun d os => cell_regrown (cm 2 _ rfl) d os
  have d3 : ∀ d os, (grow (redrawn w4 d) os).cell? ⟨g3, kk * 4 + 3, none⟩ = some (.int .i64 0) := fun d os => cell_regrown (cm 3 _ rfl) d os
  have cS1 : ∀ d os, Calls Tryd.prog 15 #[.slice (some ⟨g1, 0, none⟩) kk cap1, .slice (some ⟨g3, 0, none⟩) kk cap3, .int .i64 0] (grow (redrawn w4 d) os) fun e w'' => e = .returned (.bool true) ∧ ∃ p : Regrown, w'' = grow (redrawn w4 p.d) p.os := fun d os => by
    have hb := below_regrown w4 d os
    have v1 := View.part (HT1c.out.on hb) 0 cap1 HDG.out
    have v2 := View.part (HT3.out.on hb) 0 cap3 HDG2.out
    rw [HDL.out, Nat.zero_mul] at v1 v2
    refine Calls.regrown_of (same_true l.dropLast 0 _ _ _ v1 (by rw [map_shift0]; exact v2) (by rw [HDL.out]; omega) HPA.out)
  have cS2 : ∀ d os, Calls Tryd.prog 15 #[.slice (some ⟨g2, 0, none⟩) n2 cap2, .slice (some ⟨g3, (kk + 1) * 4, none⟩) n2 (cap3 - (kk + 1)), .int .i64 ((a.size : Int) + 1)] (grow (redrawn w4 d) os) fun e w'' => e = .returned (.bool true) ∧ ∃ p : Regrown, w'' = grow (redrawn w4 p.d) p.os := fun d os => by
    have hb := below_regrown w4 d os
    have v1 := View.of (cap := cap2) (HT2c.out.on hb)
    have v2 := View.part (HT3.out.on hb) (kk + 1) (cap3 - (kk + 1)) HEND.out
    rw [List.length_map] at v2
    rw [HN2.out] at v1 v2
    have hc := same_true m (a.size + 1) _ _ _ v1 v2 (by rw [HN2.out]; omega) HPB.out
    rw [show ((a.size + 1 : Nat) : Int) = (a.size : Int) + 1 by omega] at hc
    exact Calls.regrown_of hc
  have i1 : (kk : Int) < (kk : Int) + 1 + (n2 : Int) := by omega
  have hwr : IntKind.i64.wrap ((kk : Int) + 1) = (kk : Int) + 1 := wrap_in' (by omega) (by omega)
  have hwr2 : IntKind.i64.wrap ((a.size : Int) + 1) = (a.size : Int) + 1 := wrap_in' (by omega) (by omega)
  clear cm
  refine wp_region_quiet_below (by kernel_rfl) (by kernel_rfl) ?_
  repeat (first | go_big_quiet_step (first | (go_at_call 15; first | with_reducible exact cS1 _ _ | with_reducible exact cS2 _ _)) | quiet_step (first | (go_at_call 15; first | with_reducible exact cS1 _ _ | with_reducible exact cS2 _ _)))
  refine wpQuiet_nil ?_
  intro _ hw'
  obtain ⟨⟨dq, osq⟩, hw''⟩ := hw'
  subst hw''
  go_wp2_with fail
  go_ret
  exact ⟨rfl, HB4.out.trans ((below_regrown w4 dq osq).mono HB4.out.size)⟩
theorem joins_any (a b : ByteArray) (ha : a.size ≤ 140737488351232) (hb : b.size ≤ 140737488351232) (w : World) (hg : Handle w) : Calls Tryd.prog 6 #[.string a, .string b] w fun e w' => e = .returned (.bool true) ∧ Below w.heap.size w w' := by
  by_cases h : 262144 < a.size + 1 + b.size
  · exact joins_big a b ha hb h w hg
  · have h : a.size + 1 + b.size ≤ 262144 := by omega
    cases hs : P.scanAll a with
    | error x =>
      obtain ⟨k, er⟩ := x
      exact joins_first a b ha hb h k er hs w hg
    | ok l =>
      cases hs2 : P.scanAll b with
      | error x =>
        obtain ⟨k, er⟩ := x
        exact joins_second a b ha hb h l hs k er hs2 w hg
      | ok m => exact joins_ok a b ha hb h l hs m hs2 w hg
end W
end Go.Proofs.YtbimjejidlohnaaDoor
