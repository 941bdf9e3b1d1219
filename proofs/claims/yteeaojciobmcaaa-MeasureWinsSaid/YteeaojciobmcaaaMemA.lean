/- The walks of the program's functions on sets: each returns the words that it should, whatever the memory. A set that lies in a block of memory: its cells, and how it is written over. The set of a list's numbers: the walk. -/
import Derived.Test.YteeaojciobmcaaaChecked
import Derived.Test.YteeaojciobmcaaaPts
import Derived.WalkKit
import Derived.WalkLawsBesides
import Derived.WalkSpells
import Derived.Outline
import Derived.RegionTactic
import Derived.ChangeAlike
import Derived.LoopTactic
import Derived.Lib.QuietBelow
import Derived.BigQuiet
import Derived.Lib.Hide
import Derived.OneCell
import Derived.IntWalk
section
namespace Go.Proofs.Yteeaojciobmcaaa
open Go.RowKit Go.Sort
namespace W

end W
end Go.Proofs.Yteeaojciobmcaaa
end
section
namespace Go.Proofs.Yteeaojciobmcaaa
open Go.RowKit Go.Sort
namespace W
/-- Block b holds the set s. -/
def Blk (w : World) (b : Nat) (s : BitVec 256) (t : TypeId) : Prop := w.heap[b]? = some (.cells #[.int .u64 (P.wrd s 0), .int .u64 (P.wrd s 1), .int .u64 (P.wrd s 2), .int .u64 (P.wrd s 3)] t (0, 0))
variable {w : World} {b : Nat} {s : BitVec 256} {t : TypeId}
theorem Blk.lt (h : Blk w b s t) : b < w.heap.size := lt_of_block h
theorem Blk.c0 (h : Blk w b s t) : w.cell? ⟨b, 0, none⟩ = some (.int .u64 (P.wrd s 0)) := by rw [cell_of_row w b 0 _ t (0, 0) h]; rfl
theorem Blk.c1 (h : Blk w b s t) : w.cell? ⟨b, 1, none⟩ = some (.int .u64 (P.wrd s 1)) := by rw [cell_of_row w b 1 _ t (0, 0) h]; rfl
theorem Blk.c2 (h : Blk w b s t) : w.cell? ⟨b, 2, none⟩ = some (.int .u64 (P.wrd s 2)) := by rw [cell_of_row w b 2 _ t (0, 0) h]; rfl
theorem Blk.c3 (h : Blk w b s t) : w.cell? ⟨b, 3, none⟩ = some (.int .u64 (P.wrd s 3)) := by rw [cell_of_row w b 3 _ t (0, 0) h]; rfl
theorem Blk.free (h : Blk w b s t) (j : Nat) : w.frozen? ⟨b, j, none⟩ = false := frozen_of_row w b j _ t h
theorem Blk.below {w' : World} {B : Nat} (h : Blk w b s t) (hb : Below B w w') (hB : b < B) : Blk w' b s t := by unfold Blk; rw [hb.block b hB]; exact h
theorem Blk.on {w' : World} (h : Blk w b s t) (hb : Below w.heap.size w w') : Blk w' b s t := h.below hb h.lt
theorem Blk.new (w : World) (s : BitVec 256) (t : TypeId) : Blk (w.alloc (.cells #[.int .u64 (P.wrd s 0), .int .u64 (P.wrd s 1), .int .u64 (P.wrd s 2), .int .u64 (P.wrd s 3)] t)) w.heap.size s t := heap_alloc_new w _
theorem Blk.store (h : Blk w b s t) (r : BitVec 256) : Blk ((((w.setCell ⟨b, 0, none⟩ (.int .u64 (P.wrd r 0))).setCell ⟨b, 1, none⟩ (.int .u64 (P.wrd r 1))).setCell ⟨b, 2, none⟩ (.int .u64 (P.wrd r 2))).setCell ⟨b, 3, none⟩ (.int .u64 (P.wrd r 3))) b r t := by
  unfold Blk at h ⊢
  have h0 := heap_setCell_same w b 0 _ t (.int .u64 (P.wrd r 0)) h
  have h1 := heap_setCell_same _ b 1 _ t (.int .u64 (P.wrd r 1)) h0
  have h2 := heap_setCell_same _ b 2 _ t (.int .u64 (P.wrd r 2)) h1
  have h3 := heap_setCell_same _ b 3 _ t (.int .u64 (P.wrd r 3)) h2
  rw [h3]
  rfl
theorem Blk.zero (h : w.heap[b]? = some (.cells #[.int .u64 0, .int .u64 0, .int .u64 0, .int .u64 0] t (0, 0))) : Blk w b 0#256 t := by
  unfold Blk
  have e : ∀ k, P.wrd 0#256 k = 0 := P.wrd_zero
  rw [e, e, e, e]; exact h
theorem Blk.grown (h : Blk w b s t) (d : Nat) (os : Array Obj) : Blk (grow (redrawn w d) os) b s t := h.on (below_regrown w d os)
end W
end Go.Proofs.Yteeaojciobmcaaa
end
section
namespace Go.Proofs.Yteeaojciobmcaaa
open Go.RowKit Go.Sort
namespace P
/-- The set of those numbers of a list that may be in one. -/
def ofL (l : List Int) : BitVec 256 := l.foldl (fun s n => s ||| bit n) 0#256
theorem ofL_nil : ofL [] = 0#256 := rfl
theorem ofL_snoc (l : List Int) (n : Int) : ofL (l ++ [n]) = ofL l ||| bit n := by unfold ofL; rw [List.foldl_append]; rfl
theorem take_snoc (zs : List Int) (k : Nat) (hk : k < zs.length) : zs.take (k + 1) = zs.take k ++ [zs.getD k 0] := by
  rw [List.take_succ_eq_append_getElem hk]; simp [List.getD, List.getElem?_eq_getElem hk]
end P
namespace W
end W
end Go.Proofs.Yteeaojciobmcaaa
end
