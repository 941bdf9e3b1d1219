/- The document's own answer for sets, an array of 256 truths: its functions return the truths of the set that they should, whatever the memory. -/
import Derived.Test.YtlbikfimfaecnaaDoorOnes
import Derived.Test.YtlbikfimfaecnaaDoorEq
import Derived.Test.YtlbikfimfaecnaaDoorOf
import Derived.Laws.Rows
import Derived.Outline
import Derived.Deep.Cut
import Derived.Laws.CopyOwn
import Derived.Lib.Hide
namespace Go.Proofs.YtlbikfimfaecnaaDoor
open Go.RowKit Go.Sort
namespace P
/-- The truths of a set, as the document's array has them. -/
def truths (s : BitVec 256) : Array Value := ((List.range 256).map fun i => Value.bool (s.getLsbD i)).toArray
theorem truths_size (s : BitVec 256) : (truths s).size = 256 := by unfold truths; simp
theorem truths_at (s : BitVec 256) (i : Nat) (hi : i < 256) : (truths s)[i]? = some (.bool (s.getLsbD i)) := by
  unfold truths
  simp [hi]
/-- s up to place k, t from there on. -/
def mix (s t : BitVec 256) (k : Nat) : BitVec 256 := (s &&& full k) ||| (t &&& ~~~full k)
theorem getLsbD_mix (s t : BitVec 256) (k i : Nat) (hi : i < 256) : (mix s t k).getLsbD i = if i < k then s.getLsbD i else t.getLsbD i := by
  unfold mix
  rw [BitVec.getLsbD_or, BitVec.getLsbD_and, BitVec.getLsbD_and, BitVec.getLsbD_not, getLsbD_full]
  by_cases h : i < k
  · simp [h, hi]
  · simp [h, hi]
theorem mix_zero (s t : BitVec 256) : mix s t 0 = t := by
  apply BitVec.eq_of_getLsbD_eq
  intro i hi
  rw [getLsbD_mix _ _ _ _ hi]
  simp
theorem mix_all (s t : BitVec 256) : mix s t 256 = s := by
  apply BitVec.eq_of_getLsbD_eq
  intro i hi
  rw [getLsbD_mix _ _ _ _ hi]
  simp [hi]
theorem truths_set (s t : BitVec 256) (k : Nat) (hk : k < 256) (b : Bool) (hb : b = s.getLsbD k) : (truths (mix s t k)).setIfInBounds k (.bool b) = truths (mix s t (k + 1)) := by
  apply Array.ext_getElem?
  intro i
  by_cases hi : i < 256
  · rw [truths_at _ _ hi, Array.getElem?_setIfInBounds, getLsbD_mix _ _ _ _ hi]
    by_cases e : k = i
    · subst e
      rw [if_pos rfl, if_pos (by rw [truths_size]; exact hk), if_pos (by omega), hb]
    · rw [if_neg e, truths_at _ _ hi, getLsbD_mix _ _ _ _ hi]
      by_cases h : i < k
      · rw [if_pos h, if_pos (by omega)]
      · rw [if_neg h, if_neg (by omega)]
  · rw [Array.getElem?_eq_none (by rw [Array.size_setIfInBounds, truths_size]; omega), Array.getElem?_eq_none (by rw [truths_size]; omega)]
/-- One truth turned. -/
theorem truths_put (s : BitVec 256) (n : Nat) (hn : n < 256) (b : Bool) (r : BitVec 256) (hr : ∀ i, i < 256 → r.getLsbD i = if i = n then b else s.getLsbD i) : (truths s).setIfInBounds n (.bool b) = truths r := by
  apply Array.ext_getElem?
  intro i
  by_cases hi : i < 256
  · rw [truths_at _ _ hi, Array.getElem?_setIfInBounds, hr i hi]
    by_cases e : n = i
    · subst e
      rw [if_pos rfl, if_pos (by rw [truths_size]; exact hn), if_pos rfl]
    · rw [if_neg e, truths_at _ _ hi, if_neg (fun h => e h.symm)]
  · rw [Array.getElem?_eq_none (by rw [Array.size_setIfInBounds, truths_size]; omega), Array.getElem?_eq_none (by rw [truths_size]; omega)]
theorem put_true (s : BitVec 256) (n : Nat) (hn : n < 256) : ∀ i, i < 256 → (s ||| bit (n : Int)).getLsbD i = if i = n then true else s.getLsbD i := by
  intro i hi
  rw [BitVec.getLsbD_or, getLsbD_bit]
  by_cases e : i = n
  · subst e; simp [hn]; omega
  · have : ¬ (n : Int) = (i : Int) := by omega
    simp [e, this]
theorem put_false (s : BitVec 256) (n : Nat) (hn : n < 256) : ∀ i, i < 256 → (s &&& ~~~bit (n : Int)).getLsbD i = if i = n then false else s.getLsbD i := by
  intro i hi
  rw [BitVec.getLsbD_and, BitVec.getLsbD_not, getLsbD_bit]
  by_cases e : i = n
  · subst e; simp [hn]; omega
  · have : ¬ (n : Int) = (i : Int) := by omega
    simp [e, this, hi]
end P
namespace W
/-- Block b holds the truths of s. -/
def Tr (w : World) (b : Nat) (s : BitVec 256) : Prop := w.heap[b]? = some (.cells (P.truths s) 37 (0, 0))
variable {w : World} {b : Nat} {s : BitVec 256}
theorem Tr.lt (h : Tr w b s) : b < w.heap.size := lt_of_block h
theorem Tr.cell (h : Tr w b s) (i : Nat) (hi : i < 256) : w.cell? ⟨b, i, none⟩ = some (.bool (s.getLsbD i)) := by rw [cell_of_row w b i _ _ (0, 0) h]; exact P.truths_at s i hi
theorem Tr.free (h : Tr w b s) (j : Nat) : w.frozen? ⟨b, j, none⟩ = false := frozen_of_row w b j _ _ h
theorem Tr.on {w' : World} (h : Tr w b s) (hb : Below w.heap.size w w') : Tr w' b s := by unfold Tr; rw [hb.block b h.lt]; exact h
theorem Tr.below {w' : World} {B : Nat} (h : Tr w b s) (hb : Below B w w') (hB : b < B) : Tr w' b s := by unfold Tr; rw [hb.block b hB]; exact h
theorem Tr.new (w : World) (s : BitVec 256) : Tr (w.alloc (.cells (P.truths s) 37)) w.heap.size s := heap_alloc_new w _
theorem Tr.set (h : Tr w b s) (i : Nat) (v : Value) (r : BitVec 256) (hr : (P.truths s).setIfInBounds i v = P.truths r) : Tr (w.setCell ⟨b, i, none⟩ v) b r := by
  unfold Tr at h ⊢
  rw [heap_setCell_same w b i _ _ v h, hr]
theorem ref_under : Tryd.prog.underlying 37 = some (.array 256 4) := by kernel_rfl
theorem ref_size (s : BitVec 256) : (Tryd.prog.info? 37).map (·.size) = some (P.truths s).size := by rw [P.truths_size]; kernel_rfl
theorem zero_ref (w : World) : (zeroValue 37).run Tryd.prog w = .ok (.agg (P.truths 0#256)) w := by kernel_rfl
theorem truths_one (s : BitVec 256) : (P.truths s).all (·.oneCell') = true := by
  rw [Array.all_eq_true_iff_forall_mem]
  intro x hx
  unfold P.truths at hx
  simp only [List.mem_toArray, List.mem_map] at hx
  obtain ⟨i, _, rfl⟩ := hx
  rfl
theorem truths_both (s t : BitVec 256) : (P.truths s).size = (P.truths t).size := by rw [P.truths_size, P.truths_size]

theorem Tr.row (h : Tr w b s) (r : BitVec 256) : Tr (w.setRow b (P.truths r)) b r := by
  unfold Tr at h ⊢
  exact setRow_heap w b _ _ _ _ h
theorem Tr.setOther (h : Tr w b s) {a : Addr} (ha : b ≠ a.block) (v : Value) : Tr (w.setCell a v) b s := by
  unfold Tr
  rw [heap_setCell_other w a b v ha]
  exact h
end W
end Go.Proofs.YtlbikfimfaecnaaDoor
