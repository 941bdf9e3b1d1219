/- A list of numbers that came in; what sets are made of its numbers, in whatever order. -/
import Derived.Test.YtoopjgajpooehaaDoorClass
import Derived.Test.YtoopjgajpooehaaDoorCnt
import Derived.Deep.RegionWith
import Derived.Deep.RegionHeld3
namespace Go.Proofs.YtoopjgajpooehaaDoor
open Go.RowKit Go.Sort
namespace P
theorem getLsbD_ofL (l : List Int) (i : Nat) (hi : i < 256) : (ofL l).getLsbD i = decide ((i : Int) ∈ l) := by
  have gen : ∀ (l : List Int) (s : BitVec 256), (l.foldl (fun s n => s ||| bit n) s).getLsbD i = (s.getLsbD i || decide ((i : Int) ∈ l)) := by
    intro l
    induction l with
    | nil => intro s; simp
    | cons x l ih =>
      intro s
      rw [List.foldl_cons, ih, BitVec.getLsbD_or, getLsbD_bit]
      by_cases e : (i : Int) = x
      · subst e
        have : (i : Int) < 256 := by omega
        simp [this]
      · have e2 : ¬ x = (i : Int) := fun h => e h.symm
        simp [e, e2]
  have := gen l 0#256
  unfold ofL
  rw [this]
  simp
theorem ofL_cons (x : Int) (l : List Int) : ofL (x :: l) = ofL l ||| bit x := by
  apply BitVec.eq_of_getLsbD_eq
  intro i hi
  rw [getLsbD_ofL _ _ hi, BitVec.getLsbD_or, getLsbD_ofL _ _ hi, getLsbD_bit]
  have hi2 : (i : Int) < 256 := by omega
  by_cases e : x = (i : Int)
  · subst e
    simp [hi2]
  · have e2 : ¬ (i : Int) = x := fun h => e h.symm
    simp [e, e2]
theorem ofL_one (x : Int) (l : List Int) : ofL [x] ||| ofL l = ofL (l ++ [x]) := by
  apply BitVec.eq_of_getLsbD_eq
  intro i hi
  rw [BitVec.getLsbD_or, getLsbD_ofL _ _ hi, getLsbD_ofL _ _ hi, getLsbD_ofL _ _ hi]
  apply Bool.eq_iff_iff.2
  simp
  exact or_comm
theorem has_ofL (l : List Int) (n : Int) : has (ofL l) n = decide (n ∈ l ∧ 0 ≤ n ∧ n ≤ 255) := by
  unfold has
  by_cases h0 : 0 ≤ n
  · obtain ⟨k, rfl⟩ := Int.eq_ofNat_of_zero_le h0
    by_cases h1 : k < 256
    · simp only [Int.toNat_natCast]
      rw [getLsbD_ofL _ _ h1]
      apply Bool.eq_iff_iff.2
      simp
      omega
    · rw [BitVec.getLsbD_of_ge _ _ (by simp; omega)]
      apply Bool.eq_iff_iff.2
      simp
      omega
  · apply Bool.eq_iff_iff.2
    simp
    omega
theorem drop_one (zs : List Int) (k : Nat) (hk : k < zs.length) : zs.drop k = zs.getD k 0 :: zs.drop (k + 1) := by
  rw [List.drop_eq_getElem_cons hk]
  simp [List.getD, List.getElem?_eq_getElem hk]
end P
namespace W
/-- WHAT IS KNOWN OF A LIST OF NUMBERS THAT CAME IN: the slice holds the numbers zs (its elements alone). -/
def Ints (w : World) (v : Value) (zs : List Int) : Prop :=
  ∃ (a : Option Addr) (cap : Nat), v = .slice a zs.length cap ∧ zs.length ≤ maxLen ∧ (zs.length = 0 ∨ ∃ b off, a = some ⟨b, off, none⟩ ∧ b < w.heap.size ∧ ∀ j, j < zs.length → w.cell? ⟨b, off + j, none⟩ = some (.int .i64 (zs.getD j 0)))
theorem of_none (a : Option Addr) (cap : Nat) (w : World) : Calls Tryd.prog 14 #[.slice a 0 cap] w fun e w' => e = .returned (.agg #[.int .u64 (P.wrd 0#256 0), .int .u64 (P.wrd 0#256 1), .int .u64 (P.wrd 0#256 2), .int .u64 (P.wrd 0#256 3)]) ∧ Below w.heap.size w w' := by
  go_enter Tryd.func14, Tryd.ntmps14
  go_wp2
  refine wp_loop_rounds 1 ?_
  rw [rounds_succ]
  go_wp2
  refine bodyPost_ret (v := .agg #[.int .u64 0, .int .u64 0, .int .u64 0, .int .u64 0]) (by simp [results, Tryd.results14, go_sem]) rfl ⟨?_, ?_⟩
  · have e : ∀ k, P.wrd 0#256 k = 0 := P.wrd_zero
    rw [e, e, e, e]
  · exact ((Below.refl _ _).alloc (Nat.le_refl _) _).alloc (by simp) _
theorem of_ints {w : World} {v : Value} {zs : List Int} (h : Ints w v zs) : Calls Tryd.prog 14 #[v] w fun e w' => e = .returned (.agg #[.int .u64 (P.wrd (P.ofL zs) 0), .int .u64 (P.wrd (P.ofL zs) 1), .int .u64 (P.wrd (P.ofL zs) 2), .int .u64 (P.wrd (P.ofL zs) 3)]) ∧ Below w.heap.size w w' := by
  obtain ⟨a, cap, rfl, hm, h⟩ := h
  rcases h with h | ⟨b, off, rfl, hb, hc⟩
  · obtain rfl : zs = [] := List.eq_nil_of_length_eq_zero h
    exact of_none a cap w
  · have := of_any b off zs.length cap zs w (Nat.le_refl _) hm hb hc
    rw [List.take_length] at this
    exact this
theorem Ints.on {w w' : World} {v : Value} {zs : List Int} (h : Ints w v zs) (hb : Below w.heap.size w w') : Ints w' v zs := by
  obtain ⟨a, cap, rfl, hm, h⟩ := h
  refine ⟨a, cap, rfl, hm, ?_⟩
  rcases h with h | ⟨b, off, rfl, hbl, hc⟩
  · exact .inl h
  · exact .inr ⟨b, off, rfl, Nat.lt_of_lt_of_le hbl hb.size, fun j hj => (hb.cell (p := ⟨b, off + j, none⟩) hbl).trans (hc j hj)⟩
theorem Blk.store_other {w : World} {b b' : Nat} {s : BitVec 256} {t : TypeId} (h : Blk w b s t) (hne : b ≠ b') (r : BitVec 256) : Blk ((((w.setCell ⟨b', 0, none⟩ (.int .u64 (P.wrd r 0))).setCell ⟨b', 1, none⟩ (.int .u64 (P.wrd r 1))).setCell ⟨b', 2, none⟩ (.int .u64 (P.wrd r 2))).setCell ⟨b', 3, none⟩ (.int .u64 (P.wrd r 3))) b s t := by
  unfold Blk
  rw [heap_setCell_other _ _ _ _ hne, heap_setCell_other _ _ _ _ hne, heap_setCell_other _ _ _ _ hne, heap_setCell_other _ _ _ _ hne]
  exact h
theorem below_store {w0 w : World} {B b' : Nat} (h : Below B w0 w) (hb : B ≤ b') (r : BitVec 256) : Below B w0 ((((w.setCell ⟨b', 0, none⟩ (.int .u64 (P.wrd r 0))).setCell ⟨b', 1, none⟩ (.int .u64 (P.wrd r 1))).setCell ⟨b', 2, none⟩ (.int .u64 (P.wrd r 2))).setCell ⟨b', 3, none⟩ (.int .u64 (P.wrd r 3))) :=
  (((h.setCell hb _).setCell hb _).setCell hb _).setCell hb _
theorem of_new (y : Int) (w : World) : Calls Tryd.prog 14 #[.slice (some ⟨w.heap.size, 0, none⟩) 1 1] (w.alloc (.cells #[.int .i64 y] 3)).drew fun e w' => e = .returned (.agg #[.int .u64 (P.wrd (P.ofL [y]) 0), .int .u64 (P.wrd (P.ofL [y]) 1), .int .u64 (P.wrd (P.ofL [y]) 2), .int .u64 (P.wrd (P.ofL [y]) 3)]) ∧ Below w.heap.size w w' := by
  have h := of_any w.heap.size 0 1 1 [y] (w.alloc (.cells #[.int .i64 y] 3)).drew (Nat.le_refl 1) (by decide) (by show w.heap.size < (w.alloc _).heap.size; simp) (fun j hj => by
    obtain rfl : j = 0 := by omega
    show (w.alloc (.cells #[.int .i64 y] 3)).cell? ⟨w.heap.size, 0 + 0, none⟩ = _
    rw [World.cell?_alloc_at _ _ _ _ rfl]
    rfl)
  exact h.mono fun e w' ⟨he, hb⟩ => ⟨he, ((((Below.refl w.heap.size w).alloc (Nat.le_refl _) _).drew).trans (hb.mono (by show w.heap.size ≤ (w.alloc _).heap.size; simp)))⟩
theorem below_via {w W' w' : World} (h1 : Below w.heap.size w W') (h : Below W'.heap.size W' w') : Below w.heap.size w w' := h1.trans (h.mono h1.size)
theorem below_drew {B : Nat} {w w' : World} (h : Below B w.drew w') : Below B w w' := ⟨h.os, h.tape, h.output, h.size, h.block⟩
end W
end Go.Proofs.YtoopjgajpooehaaDoor
