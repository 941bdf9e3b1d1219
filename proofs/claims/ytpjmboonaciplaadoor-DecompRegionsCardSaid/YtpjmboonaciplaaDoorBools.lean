/- Rows of truths: the call's own, and such as are read; truths and set of the statements. -/
import Derived.Test.YtpjmboonaciplaaDoorGrowR
import Derived.Test.YtpjmboonaciplaaDoorMemA
import Derived.Test.YtpjmboonaciplaaDoorAttA
import Derived.Test.YtpjmboonaciplaaDoorHep
import Derived.Deep.Cut
namespace Go.Proofs.YtpjmboonaciplaaDoor
open Go.RowKit
namespace W

theorem info_boolB : (Tryd.prog.info? 4).map (fun i => (i.zero, i.size, i.bytes)) = some (some (.bool false), 1, 1) := by kernel_rfl
theorem elBoolB : El 4 54 (.bool false) 1 := ⟨Tryd.underlying54, by obtain ⟨i, h, h0, h1, h2⟩ := info_parts info_boolB; exact ⟨i, h, h0, h1, h2⟩, rfl⟩
def rowB (n : Nat) (f : Nat → Bool) : List Bool := (List.range n).map f
theorem rowB_len (n : Nat) (f : Nat → Bool) : (rowB n f).length = n := by unfold rowB; simp
theorem rowB_set {n : Nat} (f : Nat → Bool) (j : Nat) (z : Bool) : (rowB n f).set j z = rowB n (fun y => if y = j then z else f y) := by
  apply List.ext_getElem?
  intro i
  rw [List.getElem?_set]
  unfold rowB
  simp only [List.getElem?_map, List.length_map, List.length_range]
  by_cases e : j = i
  · subst e
    rw [if_pos rfl]
    by_cases h : j < n
    · rw [if_pos h, List.getElem?_range h]
      simp
    · rw [if_neg h, List.getElem?_eq_none (by simpa using h)]
      rfl
  · rw [if_neg e]
    by_cases h : i < n
    · rw [List.getElem?_range h]
      simp [Ne.symm e]
    · rw [List.getElem?_eq_none (by simpa using h)]
      rfl
theorem rowB_congr {n : Nat} {f h : Nat → Bool} (e : ∀ y, y < n → f y = h y) : rowB n f = rowB n h := by
  unfold rowB
  apply List.map_congr_left
  intro y hy
  exact e y (List.mem_range.1 hy)
/-- A row of n truths, the call's own. -/
def OwnB (w : World) (lo : Nat) (v : Value) (n : Nat) (f : Nat → Bool) : Prop := w.ownsRow lo 4 1 v n ((rowB n f).map Value.bool)
theorem OwnB.congr {w : World} {lo : Nat} {v : Value} {n : Nat} {f h : Nat → Bool} (ho : OwnB w lo v n f) (e : ∀ y, y < n → f y = h y) : OwnB w lo v n h := by
  unfold OwnB
  rw [← rowB_congr e]
  exact ho
theorem OwnB.put {w : World} {lo q n k : Nat} {f : Nat → Bool} (h : OwnB w lo (.slice (some ⟨q, 0, none⟩) n k) n f) (j : Nat) (z : Bool) : OwnB (w.setCell ⟨q, j, none⟩ (.bool z)) lo (.slice (some ⟨q, 0, none⟩) n k) n (fun y => if y = j then z else f y) := by
  unfold OwnB at h ⊢
  have := (h.stored j (.bool z)).1
  rw [← rowB_set, List.map_set]
  exact this
theorem OwnB.cell {w : World} {lo q n k : Nat} {f : Nat → Bool} (h : OwnB w lo (.slice (some ⟨q, 0, none⟩) n k) n f) {j : Nat} (hj : j < n) : w.cell? ⟨q, j, none⟩ = some (.bool (f j)) ∧ w.frozen? ⟨q, j, none⟩ = false := by
  unfold OwnB at h
  refine ⟨?_, h.frozenAt j⟩
  rw [h.cellAt j (by omega)]
  unfold rowB
  simp [hj]
/-- A row of n truths, read. -/
def Bl (w : World) (v : Value) (n : Nat) (f : Nat → Bool) : Prop := ∃ b k, v = .slice (some ⟨b, 0, none⟩) n k ∧ b < w.heap.size ∧ ∀ j, j < n → w.cell? ⟨b, j, none⟩ = some (.bool (f j))
theorem Bl.on {w w' : World} {v : Value} {n : Nat} {f : Nat → Bool} (h : Bl w v n f) (hb : Below w.heap.size w w') : Bl w' v n f := by
  obtain ⟨b, k, e, h1, h2⟩ := h
  exact ⟨b, k, e, Nat.lt_of_lt_of_le h1 hb.size, fun j hj => (hb.cell (p := ⟨b, j, none⟩) h1).trans (h2 j hj)⟩
theorem OwnB.bl {w : World} {lo : Nat} {v : Value} {n : Nat} {f : Nat → Bool} (h : OwnB w lo v n f) (hn : 0 < n) : Bl w v n f := by
  obtain ⟨b, k, rfl, -, h1, -, -⟩ := own_form h hn
  exact ⟨b, k, rfl, h1, fun j hj => (h.cell hj).1⟩
theorem OwnB.made {w : World} {lo : Nat} {v : Value} {n : Nat} (h : w.ownsRow lo 4 1 v n (List.replicate n (.bool false))) : OwnB w lo v n (fun _ => false) := by
  unfold OwnB rowB
  rw [List.map_map]
  have e : (List.range n).map (Value.bool ∘ fun _ => false) = List.replicate n (.bool false) := by
    apply List.ext_getElem?
    intro i
    rw [List.getElem?_map, List.getElem?_replicate]
    by_cases hi : i < n
    · rw [List.getElem?_range hi, if_pos hi]; rfl
    · rw [List.getElem?_eq_none (by simpa using hi), if_neg hi]; rfl
  rw [e]
  exact h

end W
namespace P
def setK (f : Nat → Bool) (k : Nat) : BitVec 256 := (List.range k).foldl (fun s i => if f i = true then s ||| bit (i : Int) else s) 0#256
theorem setK_succ (f : Nat → Bool) (k : Nat) : setK f (k + 1) = if f k = true then setK f k ||| bit (k : Int) else setK f k := by
  unfold setK
  rw [List.range_succ, List.foldl_append]
  rfl
theorem setK_bit (f : Nat → Bool) : ∀ (k : Nat), k ≤ 256 → ∀ x, (setK f k).getLsbD x = (decide (x < k) && f x)
  | 0, _, x => by unfold setK; simp
  | k + 1, hk, x => by
    have ih := setK_bit f k (by omega) x
    rw [setK_succ]
    by_cases hf : f k = true
    · rw [if_pos hf, bit_or _ _ _ (by omega), ih]
      by_cases e : x = k
      · subst e; simp [hf]
      · rw [show (x == k) = false by rw [beq_eq_false_iff_ne]; exact e, Bool.or_false]
        congr 1
        rw [Bool.eq_iff_iff, decide_eq_true_eq, decide_eq_true_eq]
        omega
    · rw [if_neg hf, ih]
      by_cases e : x = k
      · subst e; simp [hf]
      · congr 1
        rw [Bool.eq_iff_iff, decide_eq_true_eq, decide_eq_true_eq]
        omega
end P
namespace W
end W
end Go.Proofs.YtpjmboonaciplaaDoor
