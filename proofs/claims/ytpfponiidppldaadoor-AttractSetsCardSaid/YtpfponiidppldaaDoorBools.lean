/- Rows of truths: the call's own, and such as are read; truths and set of the statements. -/
import Derived.Test.YtpfponiidppldaaDoorGrowR
import Derived.Test.YtpfponiidppldaaDoorMem
import Derived.Test.YtpfponiidppldaaDoorAttE
import Derived.Test.YtpfponiidppldaaDoorReads
import Derived.Deep.Cut
namespace Go.Proofs.YtpfponiidppldaaDoor
open Go.RowKit
namespace W

theorem info_bool : (Tryd.prog.info? 4).map (fun i => (i.zero, i.size, i.bytes)) = some (some (.bool false), 1, 1) := by kernel_rfl
theorem elBool : El 4 34 (.bool false) 1 := ⟨Tryd.underlying34, by obtain ⟨i, h, h0, h1, h2⟩ := info_parts info_bool; exact ⟨i, h, h0, h1, h2⟩, rfl⟩
def rowB (n : Nat) (f : Nat → Bool) : List Bool := (List.range n).map f
theorem rowB_len (n : Nat) (f : Nat → Bool) : (rowB n f).length = n := by unfold rowB; simp
theorem rowB_set {n : Nat} (f : Nat → Bool) (j : Nat) (z : Bool) : (rowB n f).set j z = rowB n (fun y => if y = j then z else f y) := by
  apply List.ext_getElem?
  intro i
  rw [List.getElem?_set]
  unfold rowB
  simp only [List.getElem?_map, List.length_map, List.length_range]
  by_cases e : j = i
  · subst e
    rw [if_pos rfl]
    by_cases h : j < n
    · rw [if_pos h, List.getElem?_range h]
      simp
    · rw [if_neg h, List.getElem?_eq_none (by simpa using h)]
      rfl
  · rw [if_neg e]
    by_cases h : i < n
    · rw [List.getElem?_range h]
      simp [Ne.symm e]
    · rw [List.getElem?_eq_none (by simpa using h)]
      rfl
theorem rowB_congr {n : Nat} {f h : Nat → Bool} (e : ∀ y, y < n → f y = h y) : rowB n f = rowB n h := by
  unfold rowB
  apply List.map_congr_left
  intro y hy
  exact e y (List.mem_range.1 hy)
/-- A row of n truths, the call's own. -/
def OwnB (w : World) (lo : Nat) (v : Value) (n : Nat) (f : Nat → Bool) : Prop := w.ownsRow lo 4 1 v n ((rowB n f).map Value.bool)
theorem OwnB.congr {w : World} {lo : Nat} {v : Value} {n : Nat} {f h : Nat → Bool} (ho : OwnB w lo v n f) (e : ∀ y, y < n → f y = h y) : OwnB w lo v n h := by
  unfold OwnB
  rw [← rowB_congr e]
  exact ho
theorem OwnB.put {w : World} {lo q n k : Nat} {f : Nat → Bool} (h : OwnB w lo (.slice (some ⟨q, 0, none⟩) n k) n f) (j : Nat) (z : Bool) : OwnB (w.setCell ⟨q, j, none⟩ (.bool z)) lo (.slice (some ⟨q, 0, none⟩) n k) n (fun y => if y = j then z else f y) := by
  unfold OwnB at h ⊢
  have := (h.stored j (.bool z)).1
  rw [← rowB_set, List.map_set]
  exact this
theorem OwnB.cell {w : World} {lo q n k : Nat} {f : Nat → Bool} (h : OwnB w lo (.slice (some ⟨q, 0, none⟩) n k) n f) {j : Nat} (hj : j < n) : w.cell? ⟨q, j, none⟩ = some (.bool (f j)) ∧ w.frozen? ⟨q, j, none⟩ = false := by
  unfold OwnB at h
  refine ⟨?_, h.frozenAt j⟩
  rw [h.cellAt j (by omega)]
  unfold rowB
  simp [hj]
/-- A row of n truths, read. -/
def Bl (w : World) (v : Value) (n : Nat) (f : Nat → Bool) : Prop := ∃ b k, v = .slice (some ⟨b, 0, none⟩) n k ∧ b < w.heap.size ∧ ∀ j, j < n → w.cell? ⟨b, j, none⟩ = some (.bool (f j))
theorem Bl.on {w w' : World} {v : Value} {n : Nat} {f : Nat → Bool} (h : Bl w v n f) (hb : Below w.heap.size w w') : Bl w' v n f := by
  obtain ⟨b, k, e, h1, h2⟩ := h
  exact ⟨b, k, e, Nat.lt_of_lt_of_le h1 hb.size, fun j hj => (hb.cell (p := ⟨b, j, none⟩) h1).trans (h2 j hj)⟩
theorem OwnB.bl {w : World} {lo : Nat} {v : Value} {n : Nat} {f : Nat → Bool} (h : OwnB w lo v n f) (hn : 0 < n) : Bl w v n f := by
  obtain ⟨b, k, rfl, -, h1, -, -⟩ := own_form h hn
  exact ⟨b, k, rfl, h1, fun j hj => (h.cell hj).1⟩
theorem OwnB.made {w : World} {lo : Nat} {v : Value} {n : Nat} (h : w.ownsRow lo 4 1 v n (List.replicate n (.bool false))) : OwnB w lo v n (fun _ => false) := by
  unfold OwnB rowB
  rw [List.map_map]
  have e : (List.range n).map (Value.bool ∘ fun _ => false) = List.replicate n (.bool false) := by
    apply List.ext_getElem?
    intro i
    rw [List.getElem?_map, List.getElem?_replicate]
    by_cases hi : i < n
    · rw [List.getElem?_range hi, if_pos hi]; rfl
    · rw [List.getElem?_eq_none (by simpa using hi), if_neg hi]; rfl
  rw [e]
  exact h

set_option maxRecDepth 100000 in
set_option maxHeartbeats 1000000 in
theorem truths_any (s : BitVec 256) (n : Nat) (hn : n ≤ 200) (w : World) : Calls Tryd.prog 13 #[.agg #[.int .u64 (P.wrd s 0), .int .u64 (P.wrd s 1), .int .u64 (P.wrd s 2), .int .u64 (P.wrd s 3)], .int .i64 (n : Int)] w fun e w' => ∃ v, e = .returned v ∧ OwnB w' w.heap.size v n (fun i => s.getLsbD i) ∧ Below w.heap.size w w' := by
  go_enter Tryd.func13, Tryd.ntmps13
  go_wp2_with (refine wpl_make elBool rfl (.tmp 7) (.tmp 7) rfl n rfl rfl (by omega) (by omega) ?_; intro w7 hown7 hg7 hs7)
  have bx : Box (w.alloc (.cells #[.int .u64 (P.wrd s 0), .int .u64 (P.wrd s 1), .int .u64 (P.wrd s 2), .int .u64 (P.wrd s 3)] 28)) w.heap.size 28 #[.int .u64 (P.wrd s 0), .int .u64 (P.wrd s 1), .int .u64 (P.wrd s 2), .int .u64 (P.wrd s 3)] := Box.new _ _ _
  have hb : Below w.heap.size w (w.alloc (.cells #[.int .u64 (P.wrd s 0), .int .u64 (P.wrd s 1), .int .u64 (P.wrd s 2), .int .u64 (P.wrd s 3)] 28)) := (Below.refl _ w).alloc (Nat.le_refl _) _
  have hsz : w.heap.size < (w.alloc (.cells #[.int .u64 (P.wrd s 0), .int .u64 (P.wrd s 1), .int .u64 (P.wrd s 2), .int .u64 (P.wrd s 3)] 28)).heap.size := by simp
  have hown8 := OwnB.made hown7
  have hp1 : (w.alloc (.cells #[.int .u64 (P.wrd s 0), .int .u64 (P.wrd s 1), .int .u64 (P.wrd s 2), .int .u64 (P.wrd s 3)] 28)).heap.size = w.heap.size + 1 := by simp
  have hown9 : OwnB w7 w.heap.size (.slice (some ⟨w.heap.size + 1, 0, none⟩) n n) n (fun _ => false) := by
    rw [← hp1]
    exact own_more hown8 (by omega)
  generalize (w.alloc (.cells #[.int .u64 (P.wrd s 0), .int .u64 (P.wrd s 1), .int .u64 (P.wrd s 2), .int .u64 (P.wrd s 3)] 28)) = w0 at bx hb hg7 ⊢
  have hqs : w.heap.size < w.heap.size + 1 := Nat.lt_succ_self _
  generalize w.heap.size + 1 = p at hown9 hqs ⊢
  have HO7 := Lib.hid hown9
  have BQs := Lib.hid (bx.keep hg7)
  have HW0 := Lib.hid hb
  have HW7 := Lib.hid (below_of_grown hg7)
  have HQ := Lib.hid hqs
  obtain ⟨qs, hq⟩ : ∃ q, w.heap.size = q := ⟨_, rfl⟩
  rw [hq] at BQs HO7 HQ ⊢
  have HQS := Lib.hid hq
  clear bx hb hsz hown7 hown8 hown9 hg7 hs7 hp1 hqs hq
  go_wp2_with fail
  go_loopw [6] (fun i wr => ∃ k : Nat, k ≤ n ∧ i = .int .i64 (k : Int) ∧ OwnB wr qs (.slice (some ⟨p, 0, none⟩) n n) n (fun y => decide (y < k) && s.getLsbD y) ∧ w7.grownBy wr (some p)) (fun i _ => n - (intOf i).toNat)
  case atStart => exact ⟨0, Nat.zero_le _, rfl, HO7.out.congr (fun y _ => by simp), Rg.grown_refl _ _⟩
  case round =>
    obtain ⟨k, hk, rfl, ho, hg⟩ := hrel
    have HO := Lib.hid ho
    have HG := Lib.hid hg
    clear ho hg
    have hk0 : (0 : Int) ≤ (k : Int) := Int.natCast_nonneg _
    by_cases hlt : k < n
    · have fk : decide ((k : Int) < (n : Int)) = true := decide_eq_true (by omega)
      have f2 : decide ((k : Int) < 256) = true := decide_eq_true (by omega)
      have hki : (k : Int) < (n : Int) := by omega
      have hm0 : 0 ≤ (k : Int) % 64 := by omega
      have hm1 : (k : Int) % 64 < 64 := by omega
      obtain ⟨co, fo⟩ := HO.out.cell hlt
      have hbb := BQs.out.grown HG.out (show some qs ≠ some p from fun e => by injection e with e; have h1 := HQ.out; omega)
      have sc0 : wr.cell? ⟨qs, 0, none⟩ = some (.int .u64 (P.wrd s 0)) := hbb.cell 0 _ rfl
      have sc1 : wr.cell? ⟨qs, 1, none⟩ = some (.int .u64 (P.wrd s 1)) := hbb.cell 1 _ rfl
      have sc2 : wr.cell? ⟨qs, 2, none⟩ = some (.int .u64 (P.wrd s 2)) := hbb.cell 2 _ rfl
      have sc3 : wr.cell? ⟨qs, 3, none⟩ = some (.int .u64 (P.wrd s 3)) := hbb.cell 3 _ rfl
      clear hbb
      rcases (by omega : (k : Int) / 64 = 0 ∨ (k : Int) / 64 = 1 ∨ (k : Int) / 64 = 2 ∨ (k : Int) / 64 = 3) with hkk | hkk | hkk | hkk
      · have hk : (k : Int) / 64 = 0 := hkk
        have hw := P.has_word s (k : Int) 0 hk0 hk
        rw [P.has_nat, show ((k : Int) % 64).toNat = k % 64 by omega] at hw
        obtain ⟨hb0, _⟩ := P.wrd_bd s 0
        have HREL := Lib.hid (show OwnB (wr.setCell ⟨p, k, none⟩ (.bool (s.getLsbD k))) qs (.slice (some ⟨p, 0, none⟩) n n) n (fun y => decide (y < k + 1) && s.getLsbD y) from (HO.out.put k (s.getLsbD k)).congr fun y _ => by
          by_cases e : y = k
          · subst e; rw [if_pos rfl, decide_eq_true (by omega), Bool.true_and]
          · rw [if_neg e]
            congr 1
            rw [Bool.eq_iff_iff, decide_eq_true_eq, decide_eq_true_eq]
            omega)
        have HG2 := Lib.hid (grown_chain HG.out (grown_set wr ⟨p, k, none⟩ (.bool (s.getLsbD k))))
        clear hkk
        go_wp2_with fail
        go_roundw
        case rel => exact ⟨k + 1, by omega, by go_num, HREL.out, HG2.out⟩
        case measure => simp [intOf]; omega
      · have hk : (k : Int) / 64 = 1 := hkk
        have hw := P.has_word s (k : Int) 1 hk0 hk
        rw [P.has_nat, show ((k : Int) % 64).toNat = k % 64 by omega] at hw
        obtain ⟨hb0, _⟩ := P.wrd_bd s 1
        have HREL := Lib.hid (show OwnB (wr.setCell ⟨p, k, none⟩ (.bool (s.getLsbD k))) qs (.slice (some ⟨p, 0, none⟩) n n) n (fun y => decide (y < k + 1) && s.getLsbD y) from (HO.out.put k (s.getLsbD k)).congr fun y _ => by
          by_cases e : y = k
          · subst e; rw [if_pos rfl, decide_eq_true (by omega), Bool.true_and]
          · rw [if_neg e]
            congr 1
            rw [Bool.eq_iff_iff, decide_eq_true_eq, decide_eq_true_eq]
            omega)
        have HG2 := Lib.hid (grown_chain HG.out (grown_set wr ⟨p, k, none⟩ (.bool (s.getLsbD k))))
        clear hkk
        go_wp2_with fail
        go_roundw
        case rel => exact ⟨k + 1, by omega, by go_num, HREL.out, HG2.out⟩
        case measure => simp [intOf]; omega
      · have hk : (k : Int) / 64 = 2 := hkk
        have hw := P.has_word s (k : Int) 2 hk0 hk
        rw [P.has_nat, show ((k : Int) % 64).toNat = k % 64 by omega] at hw
        obtain ⟨hb0, _⟩ := P.wrd_bd s 2
        have HREL := Lib.hid (show OwnB (wr.setCell ⟨p, k, none⟩ (.bool (s.getLsbD k))) qs (.slice (some ⟨p, 0, none⟩) n n) n (fun y => decide (y < k + 1) && s.getLsbD y) from (HO.out.put k (s.getLsbD k)).congr fun y _ => by
          by_cases e : y = k
          · subst e; rw [if_pos rfl, decide_eq_true (by omega), Bool.true_and]
          · rw [if_neg e]
            congr 1
            rw [Bool.eq_iff_iff, decide_eq_true_eq, decide_eq_true_eq]
            omega)
        have HG2 := Lib.hid (grown_chain HG.out (grown_set wr ⟨p, k, none⟩ (.bool (s.getLsbD k))))
        clear hkk
        go_wp2_with fail
        go_roundw
        case rel => exact ⟨k + 1, by omega, by go_num, HREL.out, HG2.out⟩
        case measure => simp [intOf]; omega
      · have hk : (k : Int) / 64 = 3 := hkk
        have hw := P.has_word s (k : Int) 3 hk0 hk
        rw [P.has_nat, show ((k : Int) % 64).toNat = k % 64 by omega] at hw
        obtain ⟨hb0, _⟩ := P.wrd_bd s 3
        have HREL := Lib.hid (show OwnB (wr.setCell ⟨p, k, none⟩ (.bool (s.getLsbD k))) qs (.slice (some ⟨p, 0, none⟩) n n) n (fun y => decide (y < k + 1) && s.getLsbD y) from (HO.out.put k (s.getLsbD k)).congr fun y _ => by
          by_cases e : y = k
          · subst e; rw [if_pos rfl, decide_eq_true (by omega), Bool.true_and]
          · rw [if_neg e]
            congr 1
            rw [Bool.eq_iff_iff, decide_eq_true_eq, decide_eq_true_eq]
            omega)
        have HG2 := Lib.hid (grown_chain HG.out (grown_set wr ⟨p, k, none⟩ (.bool (s.getLsbD k))))
        clear hkk
        go_wp2_with fail
        go_roundw
        case rel => exact ⟨k + 1, by omega, by go_num, HREL.out, HG2.out⟩
        case measure => simp [intOf]; omega
    · have fk : decide ((k : Int) < (n : Int)) = false := decide_eq_false (by omega)
      have HRES := Lib.hid (show OwnB wr qs (.slice (some ⟨p, 0, none⟩) n n) n (fun i => s.getLsbD i) from by
        have h := HO.out.congr (h := fun i => s.getLsbD i) (fun y hy => by rw [decide_eq_true (by omega), Bool.true_and])
        exact h)
      have HB := Lib.hid ((HW0.out.trans (HW7.out.mono HW0.out.size)).trans (below_mono_grown HG.out (by have h1 := HW0.out.size; have h2 := HW7.out.size; omega) (fun q e => by injection e with e; have h1 := HQ.out; have h2 := HQS.out; omega)))
      go_wp2_with fail
      go_ret
      exact ⟨_, rfl, by rw [HQS.out]; exact HRES.out, HB.out⟩

end W
namespace P
/-- The set of the first k truths. -/
def setK (f : Nat → Bool) (k : Nat) : BitVec 256 := (List.range k).foldl (fun s i => if f i = true then s ||| bit (i : Int) else s) 0#256
theorem setK_succ (f : Nat → Bool) (k : Nat) : setK f (k + 1) = if f k = true then setK f k ||| bit (k : Int) else setK f k := by
  unfold setK
  rw [List.range_succ, List.foldl_append]
  rfl
theorem setK_bit (f : Nat → Bool) : ∀ (k : Nat), k ≤ 256 → ∀ x, (setK f k).getLsbD x = (decide (x < k) && f x)
  | 0, _, x => by unfold setK; simp
  | k + 1, hk, x => by
    have ih := setK_bit f k (by omega) x
    rw [setK_succ]
    by_cases hf : f k = true
    · rw [if_pos hf, bit_or _ _ _ (by omega), ih]
      by_cases e : x = k
      · subst e; simp [hf]
      · rw [show (x == k) = false by rw [beq_eq_false_iff_ne]; exact e, Bool.or_false]
        congr 1
        rw [Bool.eq_iff_iff, decide_eq_true_eq, decide_eq_true_eq]
        omega
    · rw [if_neg hf, ih]
      by_cases e : x = k
      · subst e; simp [hf]
      · congr 1
        rw [Bool.eq_iff_iff, decide_eq_true_eq, decide_eq_true_eq]
        omega
end P
namespace W
set_option maxRecDepth 100000 in
set_option maxHeartbeats 1000000 in
theorem set_any (f : Nat → Bool) (n : Nat) (hn : n ≤ 200) (v : Value) (w : World) (hv : Bl w v n f) : Calls Tryd.prog 16 #[v] w fun e w' => e = .returned (.agg #[.int .u64 (P.wrd (P.setK f n) 0), .int .u64 (P.wrd (P.setK f n) 1), .int .u64 (P.wrd (P.setK f n) 2), .int .u64 (P.wrd (P.setK f n) 3)]) ∧ Below w.heap.size w w' := by
  obtain ⟨b, kb, rfl, hlb, hcb⟩ := hv
  have HLB := Lib.hid hlb
  have HCB := Lib.hid hcb
  clear hlb hcb
  go_enter Tryd.func16, Tryd.ntmps16
  go_wp2_with fail
  have bx : Box ((w.alloc (.cells #[.int .u64 0, .int .u64 0, .int .u64 0, .int .u64 0] 28)).alloc (.cells #[.int .u64 0, .int .u64 0, .int .u64 0, .int .u64 0] 28)) (w.heap.size + 1) 28 #[.int .u64 0, .int .u64 0, .int .u64 0, .int .u64 0] := by
    have := Box.new (w.alloc (.cells #[.int .u64 0, .int .u64 0, .int .u64 0, .int .u64 0] 28)) 28 #[.int .u64 0, .int .u64 0, .int .u64 0, .int .u64 0]
    simpa using this
  have by_ : Box ((w.alloc (.cells #[.int .u64 0, .int .u64 0, .int .u64 0, .int .u64 0] 28)).alloc (.cells #[.int .u64 0, .int .u64 0, .int .u64 0, .int .u64 0] 28)) w.heap.size 28 #[.int .u64 0, .int .u64 0, .int .u64 0, .int .u64 0] := (Box.new w _ _).alloc _
  have hb : Below w.heap.size w ((w.alloc (.cells #[.int .u64 0, .int .u64 0, .int .u64 0, .int .u64 0] 28)).alloc (.cells #[.int .u64 0, .int .u64 0, .int .u64 0, .int .u64 0] 28)) := ((Below.refl _ w).alloc (Nat.le_refl _) _).alloc (by simp) _
  generalize ((w.alloc (.cells #[.int .u64 0, .int .u64 0, .int .u64 0, .int .u64 0] 28)).alloc (.cells #[.int .u64 0, .int .u64 0, .int .u64 0, .int .u64 0] 28)) = w0 at bx by_ hb ⊢
  obtain ⟨q, hqs⟩ : ∃ q, w.heap.size + 1 = q := ⟨_, rfl⟩
  rw [hqs] at bx ⊢
  have HQ := Lib.hid hqs
  have HB0 := Lib.hid (show Box w0 q 28 #[.int .u64 (P.wrd 0#256 0), .int .u64 (P.wrd 0#256 1), .int .u64 (P.wrd 0#256 2), .int .u64 (P.wrd 0#256 3)] from Blk.zero bx)
  have HR0 := Lib.hid by_
  have HW0 := Lib.hid hb
  clear bx by_ hb hqs
  go_loopw [4] (fun i wr => ∃ k : Nat, k ≤ n ∧ i = .int .i64 (k : Int) ∧ Box wr q 28 #[.int .u64 (P.wrd (P.setK f k) 0), .int .u64 (P.wrd (P.setK f k) 1), .int .u64 (P.wrd (P.setK f k) 2), .int .u64 (P.wrd (P.setK f k) 3)] ∧ Below q w0 wr) (fun i _ => n - (intOf i).toNat)
  case atStart => exact ⟨0, Nat.zero_le _, rfl, HB0.out, Below.refl _ _⟩
  case round =>
    obtain ⟨k, hk, rfl, hb, hw⟩ := hrel
    obtain ⟨s, hs⟩ : ∃ s, P.setK f k = s := ⟨_, rfl⟩
    rw [hs] at hb
    have HB := Lib.hid hb
    have HW := Lib.hid hw
    have HS := Lib.hid hs
    clear hb hw hs
    have hk0 : (0 : Int) ≤ (k : Int) := Int.natCast_nonneg _
    have hbb := HB.out
    have sc0 : wr.cell? ⟨q, 0, none⟩ = some (.int .u64 (P.wrd s 0)) := hbb.cell 0 _ rfl
    have sc1 : wr.cell? ⟨q, 1, none⟩ = some (.int .u64 (P.wrd s 1)) := hbb.cell 1 _ rfl
    have sc2 : wr.cell? ⟨q, 2, none⟩ = some (.int .u64 (P.wrd s 2)) := hbb.cell 2 _ rfl
    have sc3 : wr.cell? ⟨q, 3, none⟩ = some (.int .u64 (P.wrd s 3)) := hbb.cell 3 _ rfl
    have sf0 : wr.frozen? ⟨q, 0, none⟩ = false := hbb.frozen 0
    have sf1 : wr.frozen? ⟨q, 1, none⟩ = false := hbb.frozen 1
    have sf2 : wr.frozen? ⟨q, 2, none⟩ = false := hbb.frozen 2
    have sf3 : wr.frozen? ⟨q, 3, none⟩ = false := hbb.frozen 3
    clear hbb
    by_cases hlt : k < n
    · have fk : decide ((k : Int) < (n : Int)) = true := decide_eq_true (by omega)
      have hki : (k : Int) < (n : Int) := by omega
      have hm0 : 0 ≤ (k : Int) % 64 := by omega
      have hm1 : (k : Int) % 64 < 64 := by omega
      have cb : wr.cell? ⟨b, k, none⟩ = some (.bool (f k)) := ((HW0.out.trans (HW.out.mono (by have := HQ.out; omega))).cell (p := ⟨b, k, none⟩) HLB.out).trans (HCB.out k hlt)
      rcases (by omega : (k : Int) / 64 = 0 ∨ (k : Int) / 64 = 1 ∨ (k : Int) / 64 = 2 ∨ (k : Int) / 64 = 3) with hkk | hkk | hkk | hkk
      · have hk : (k : Int) / 64 = 0 := hkk
        by_cases hf : f k = true
        · rw [hf] at cb
          have hwb := P.wrd_bit (k : Int) 0 hk0 (by omega) hk
          rw [show ((k : Int) % 64).toNat = k % 64 by omega] at hwb
          have hc := P.wrd_or s (P.bit (k : Int)) 0
          have HREL := Lib.hid (show Box (wr.setCell ⟨q, 0, none⟩ (.int .u64 (P.wrd (s ||| P.bit (k : Int)) 0))) q 28 #[.int .u64 (P.wrd (s ||| P.bit (k : Int)) 0), .int .u64 (P.wrd (s ||| P.bit (k : Int)) 1), .int .u64 (P.wrd (s ||| P.bit (k : Int)) 2), .int .u64 (P.wrd (s ||| P.bit (k : Int)) 3)] from by
            have h := HB.out.set 0 (.int .u64 (P.wrd (s ||| P.bit (k : Int)) 0))
            have e : ∀ j : Nat, (k : Int) / 64 ≠ (j : Int) → P.wrd s j = P.wrd (s ||| P.bit (k : Int)) j := fun j hj => (P.wrd_or_bit_other s (k : Int) j hj).symm
            rw [e 1 (by rw [hk]; decide)] at h
            rw [e 2 (by rw [hk]; decide)] at h
            rw [e 3 (by rw [hk]; decide)] at h
            simpa using h)
          have HSK := Lib.hid (show P.setK f (k + 1) = s ||| P.bit (k : Int) from by rw [P.setK_succ, hf, if_pos rfl, HS.out])
          have HW2 := Lib.hid (HW.out.setCell (p := ⟨q, 0, none⟩) (Nat.le_refl q) (.int .u64 (P.wrd (s ||| P.bit (k : Int)) 0)))
          clear hkk hf
          go_wp2_with fail
          go_roundw
          case rel => exact ⟨k + 1, by omega, by go_num, by rw [HSK.out]; exact HREL.out, HW2.out⟩
          case measure => simp [intOf]; omega
        · have hf : f k = false := by simpa using hf
          rw [hf] at cb
          have HSK := Lib.hid (show P.setK f (k + 1) = s from by rw [P.setK_succ, hf, if_neg (by decide), HS.out])
          clear hkk hf
          go_wp2_with fail
          go_roundw
          case rel => exact ⟨k + 1, by omega, by go_num, by rw [HSK.out]; exact HB.out, HW.out⟩
          case measure => simp [intOf]; omega
      · have hk : (k : Int) / 64 = 1 := hkk
        by_cases hf : f k = true
        · rw [hf] at cb
          have hwb := P.wrd_bit (k : Int) 1 hk0 (by omega) hk
          rw [show ((k : Int) % 64).toNat = k % 64 by omega] at hwb
          have hc := P.wrd_or s (P.bit (k : Int)) 1
          have HREL := Lib.hid (show Box (wr.setCell ⟨q, 1, none⟩ (.int .u64 (P.wrd (s ||| P.bit (k : Int)) 1))) q 28 #[.int .u64 (P.wrd (s ||| P.bit (k : Int)) 0), .int .u64 (P.wrd (s ||| P.bit (k : Int)) 1), .int .u64 (P.wrd (s ||| P.bit (k : Int)) 2), .int .u64 (P.wrd (s ||| P.bit (k : Int)) 3)] from by
            have h := HB.out.set 1 (.int .u64 (P.wrd (s ||| P.bit (k : Int)) 1))
            have e : ∀ j : Nat, (k : Int) / 64 ≠ (j : Int) → P.wrd s j = P.wrd (s ||| P.bit (k : Int)) j := fun j hj => (P.wrd_or_bit_other s (k : Int) j hj).symm
            rw [e 0 (by rw [hk]; decide)] at h
            rw [e 2 (by rw [hk]; decide)] at h
            rw [e 3 (by rw [hk]; decide)] at h
            simpa using h)
          have HSK := Lib.hid (show P.setK f (k + 1) = s ||| P.bit (k : Int) from by rw [P.setK_succ, hf, if_pos rfl, HS.out])
          have HW2 := Lib.hid (HW.out.setCell (p := ⟨q, 1, none⟩) (Nat.le_refl q) (.int .u64 (P.wrd (s ||| P.bit (k : Int)) 1)))
          clear hkk hf
          go_wp2_with fail
          go_roundw
          case rel => exact ⟨k + 1, by omega, by go_num, by rw [HSK.out]; exact HREL.out, HW2.out⟩
          case measure => simp [intOf]; omega
        · have hf : f k = false := by simpa using hf
          rw [hf] at cb
          have HSK := Lib.hid (show P.setK f (k + 1) = s from by rw [P.setK_succ, hf, if_neg (by decide), HS.out])
          clear hkk hf
          go_wp2_with fail
          go_roundw
          case rel => exact ⟨k + 1, by omega, by go_num, by rw [HSK.out]; exact HB.out, HW.out⟩
          case measure => simp [intOf]; omega
      · have hk : (k : Int) / 64 = 2 := hkk
        by_cases hf : f k = true
        · rw [hf] at cb
          have hwb := P.wrd_bit (k : Int) 2 hk0 (by omega) hk
          rw [show ((k : Int) % 64).toNat = k % 64 by omega] at hwb
          have hc := P.wrd_or s (P.bit (k : Int)) 2
          have HREL := Lib.hid (show Box (wr.setCell ⟨q, 2, none⟩ (.int .u64 (P.wrd (s ||| P.bit (k : Int)) 2))) q 28 #[.int .u64 (P.wrd (s ||| P.bit (k : Int)) 0), .int .u64 (P.wrd (s ||| P.bit (k : Int)) 1), .int .u64 (P.wrd (s ||| P.bit (k : Int)) 2), .int .u64 (P.wrd (s ||| P.bit (k : Int)) 3)] from by
            have h := HB.out.set 2 (.int .u64 (P.wrd (s ||| P.bit (k : Int)) 2))
            have e : ∀ j : Nat, (k : Int) / 64 ≠ (j : Int) → P.wrd s j = P.wrd (s ||| P.bit (k : Int)) j := fun j hj => (P.wrd_or_bit_other s (k : Int) j hj).symm
            rw [e 0 (by rw [hk]; decide)] at h
            rw [e 1 (by rw [hk]; decide)] at h
            rw [e 3 (by rw [hk]; decide)] at h
            simpa using h)
          have HSK := Lib.hid (show P.setK f (k + 1) = s ||| P.bit (k : Int) from by rw [P.setK_succ, hf, if_pos rfl, HS.out])
          have HW2 := Lib.hid (HW.out.setCell (p := ⟨q, 2, none⟩) (Nat.le_refl q) (.int .u64 (P.wrd (s ||| P.bit (k : Int)) 2)))
          clear hkk hf
          go_wp2_with fail
          go_roundw
          case rel => exact ⟨k + 1, by omega, by go_num, by rw [HSK.out]; exact HREL.out, HW2.out⟩
          case measure => simp [intOf]; omega
        · have hf : f k = false := by simpa using hf
          rw [hf] at cb
          have HSK := Lib.hid (show P.setK f (k + 1) = s from by rw [P.setK_succ, hf, if_neg (by decide), HS.out])
          clear hkk hf
          go_wp2_with fail
          go_roundw
          case rel => exact ⟨k + 1, by omega, by go_num, by rw [HSK.out]; exact HB.out, HW.out⟩
          case measure => simp [intOf]; omega
      · have hk : (k : Int) / 64 = 3 := hkk
        by_cases hf : f k = true
        · rw [hf] at cb
          have hwb := P.wrd_bit (k : Int) 3 hk0 (by omega) hk
          rw [show ((k : Int) % 64).toNat = k % 64 by omega] at hwb
          have hc := P.wrd_or s (P.bit (k : Int)) 3
          have HREL := Lib.hid (show Box (wr.setCell ⟨q, 3, none⟩ (.int .u64 (P.wrd (s ||| P.bit (k : Int)) 3))) q 28 #[.int .u64 (P.wrd (s ||| P.bit (k : Int)) 0), .int .u64 (P.wrd (s ||| P.bit (k : Int)) 1), .int .u64 (P.wrd (s ||| P.bit (k : Int)) 2), .int .u64 (P.wrd (s ||| P.bit (k : Int)) 3)] from by
            have h := HB.out.set 3 (.int .u64 (P.wrd (s ||| P.bit (k : Int)) 3))
            have e : ∀ j : Nat, (k : Int) / 64 ≠ (j : Int) → P.wrd s j = P.wrd (s ||| P.bit (k : Int)) j := fun j hj => (P.wrd_or_bit_other s (k : Int) j hj).symm
            rw [e 0 (by rw [hk]; decide)] at h
            rw [e 1 (by rw [hk]; decide)] at h
            rw [e 2 (by rw [hk]; decide)] at h
            simpa using h)
          have HSK := Lib.hid (show P.setK f (k + 1) = s ||| P.bit (k : Int) from by rw [P.setK_succ, hf, if_pos rfl, HS.out])
          have HW2 := Lib.hid (HW.out.setCell (p := ⟨q, 3, none⟩) (Nat.le_refl q) (.int .u64 (P.wrd (s ||| P.bit (k : Int)) 3)))
          clear hkk hf
          go_wp2_with fail
          go_roundw
          case rel => exact ⟨k + 1, by omega, by go_num, by rw [HSK.out]; exact HREL.out, HW2.out⟩
          case measure => simp [intOf]; omega
        · have hf : f k = false := by simpa using hf
          rw [hf] at cb
          have HSK := Lib.hid (show P.setK f (k + 1) = s from by rw [P.setK_succ, hf, if_neg (by decide), HS.out])
          clear hkk hf
          go_wp2_with fail
          go_roundw
          case rel => exact ⟨k + 1, by omega, by go_num, by rw [HSK.out]; exact HB.out, HW.out⟩
          case measure => simp [intOf]; omega
    · have fk : decide ((k : Int) < (n : Int)) = false := decide_eq_false (by omega)
      obtain rfl : k = n := by omega
      have hbb : Box wr w.heap.size 28 #[.int .u64 0, .int .u64 0, .int .u64 0, .int .u64 0] := by
        unfold Box
        rw [HW.out.block _ (by have := HQ.out; omega)]
        exact HR0.out
      have rc0 : wr.cell? ⟨w.heap.size, 0, none⟩ = some (.int .u64 0) := hbb.cell 0 _ rfl
      have rc1 : wr.cell? ⟨w.heap.size, 1, none⟩ = some (.int .u64 0) := hbb.cell 1 _ rfl
      have rc2 : wr.cell? ⟨w.heap.size, 2, none⟩ = some (.int .u64 0) := hbb.cell 2 _ rfl
      have rc3 : wr.cell? ⟨w.heap.size, 3, none⟩ = some (.int .u64 0) := hbb.cell 3 _ rfl
      have rf0 : wr.frozen? ⟨w.heap.size, 0, none⟩ = false := hbb.frozen 0
      have rf1 : wr.frozen? ⟨w.heap.size, 1, none⟩ = false := hbb.frozen 1
      have rf2 : wr.frozen? ⟨w.heap.size, 2, none⟩ = false := hbb.frozen 2
      have rf3 : wr.frozen? ⟨w.heap.size, 3, none⟩ = false := hbb.frozen 3
      clear hbb
      have HPO := Lib.hid ((HW0.out.trans (HW.out.mono (by have := HQ.out; omega))).trans (below4 (w := wr) (q := w.heap.size) (.int .u64 (P.wrd s 0)) (.int .u64 (P.wrd s 1)) (.int .u64 (P.wrd s 2)) (.int .u64 (P.wrd s 3)) (Nat.le_refl _)))
      go_wp2_with fail
      refine bodyPost_ret (v := .agg #[.int .u64 (P.wrd s 0), .int .u64 (P.wrd s 1), .int .u64 (P.wrd s 2), .int .u64 (P.wrd s 3)]) (by simp [results, Tryd.results16, go_sem, rc0, rc1, rc2, rc3]) rfl ⟨by rw [HS.out], HPO.out⟩
end W
end Go.Proofs.YtpfponiidppldaaDoor
