/- A list of numbers that came in; what the bound on all that came in gives. -/
import Derived.Test.YtbimjejidlohnaaDoorFrame
import Derived.Test.YtbimjejidlohnaaDoorAgain
import Derived.ChangeSlices
namespace Go.Proofs.YtbimjejidlohnaaDoor
namespace Fr
open Go.ChangeShapes Go.WideShapes Go.ChangeAt Go.RowKit
theorem open_list {H : Type} {enc : TypeId × Value → H} {W : World} {base : Nat} {v : Value} {d : DataW H} {p : List MemPlace} {ts : List TypeId} {ds : List (DataW H)} {j : Nat}
    (hok : Value.okWide Tryd.prog W .any base 37 v) (h : DataW.Trod enc Tryd.prog W 0 (fun _ => true) true 37 v d p)
    (hS : (DataW.weightsEach Tryd.prog ts ds).all (· ≤ reachBytes) = true) (hts : ts[j]? = some 37) (hds : ds[j]? = some d) : ∃ zs, Go.Proofs.YtbimjejidlohnaaDoor.W.Ints W v zs := by
  obtain ⟨a, len, cap, rfl⟩ := okWide_slice Tryd.underlying37 hok
  obtain ⟨fuel, hf⟩ := h
  rcases open_ints Tryd.underlying37 Tryd.underlying3 (by kernel_rfl) hf with ⟨hcs, _⟩ | ⟨x, l, c, zs, hcs, _, hl, hm, hz, hx, hcell, hwf⟩
  · simp [Value.cells] at hcs
    obtain ⟨rfl, rfl, rfl⟩ := hcs
    exact ⟨[], none, 0, rfl, by decide, .inl rfl⟩
  · simp [Value.cells] at hcs
    obtain ⟨rfl, rfl, rfl⟩ := hcs
    have hd : d = .slice (lits .i64 (zs.take len)) (lits .i64 (zs.drop len)) := congrArg Prod.fst hx
    have hs := sized_slice hS hts (by rw [hds, hd]) Tryd.underlying37
    have hby : Tryd.prog.bytesOf 3 = 8 := by kernel_rfl
    rw [hby] at hs
    have hlz : (lits (H := H) .i64 (zs.take len)).length = (zs.take len).length := by simp [lits]
    have hz' : zs.length = cap := by simpa using hz
    have ht : (zs.take len).length = len := by rw [List.length_take]; omega
    have hr : reachBytes = 140737488351232 := by decide
    refine ⟨zs.take len, some x, cap, by rw [ht], by omega, ?_⟩
    rw [ht]
    by_cases h0 : len = 0
    · exact .inl h0
    · right
      obtain ⟨b, off, rfl, hc⟩ := ints_at hcell (by omega)
      refine ⟨b, off, rfl, block_lt_of_cell (hc 0 (by omega)), fun j hj => ?_⟩
      have hjz : j < zs.length := by omega
      have e : (zs.take len).getD j 0 = zs.getD j 0 := by simp [List.getD, hj]
      rw [e]
      have hw := int_i64 (hwf (zs.getD j 0) (by rw [List.getD_eq_getElem?_getD, List.getElem?_eq_getElem hjz]; exact List.getElem_mem hjz))
      exact ⟨hc j (by omega), hw.1, hw.2⟩
theorem bulk_first {H : Type} {s : ByteArray} {d e : DataW H} (h : Rows.uptoSmall H [.lit (.string s.data.toList), d, e] = true) : s.size ≤ 1048576 := by
  have h : Rows.uptoBulkAll [DataW.lit (H := H) (.string s.data.toList), d, e] ≤ 1048576 := of_decide_eq_true h
  simp only [Rows.uptoBulkAll, Rows.uptoBulk] at h
  have e1 : s.data.toList.length = s.size := by simp
  omega
theorem bulk_third {H : Type} {s : ByteArray} {d e : DataW H} (h : Rows.uptoSmall H [e, d, .lit (.string s.data.toList)] = true) : s.size ≤ 1048576 := by
  have h : Rows.uptoBulkAll [e, d, DataW.lit (H := H) (.string s.data.toList)] ≤ 1048576 := of_decide_eq_true h
  simp only [Rows.uptoBulkAll] at h
  have e2 : Rows.uptoBulk (DataW.lit (H := H) (.string s.data.toList)) = s.data.toList.length + 1 := by simp [Rows.uptoBulk]
  have e1 : s.data.toList.length = s.size := by simp
  omega
end Fr
end Go.Proofs.YtbimjejidlohnaaDoor
