/- What the frames of stage 17's laws share: games and lists of numbers that came in. -/
import Derived.Test.YtghdjkpndhcplaaRows
import Derived.Test.YtghdjkpndhcplaaOwned

import Derived.Deep.Matrix
import Derived.Lib.SmallJoins
import Derived.SizedLaws
import Derived.WalkKit
import Derived.ProofKit
import Derived.OpenShut
import Derived.Deep.DeepHandedRow
import Derived.Laws.IdiomArrays
namespace Go.Proofs.Ytghdjkpndhcplaa
namespace Fr
open Go.ChangeShapes Go.WideShapes Go.ChangeAt Go.RowKit Go.Deep Go.Lib

theorem own : ownKnob Try.prog.godebug = none := by kernel_rfl
theorem laidOut : laidOutB Try.prog = true := by kernel_rfl
section
variable {H : Type}
theorem mem_all {P : Program} {e : TypeId} : ∀ {l : List (DataW H)} {d : DataW H}, d ∈ l → ∀ n ∈ d.weights P e, n ∈ DataW.weightsAll P e l
  | [], _, h, _, _ => by cases h
  | d0 :: l, d, h, n, hn => by
    simp only [DataW.weightsAll, List.mem_append]
    rcases List.mem_cons.1 h with rfl | h
    · exact .inl hn
    · exact .inr (mem_all h n hn)

/-- A LIST OF NUMBERS THAT CAME IN, WITH THE BYTES THAT IT MAY TAKE. -/
theorem open_ints_w {enc : TypeId × Value → H} {W : World} {u : Value} {y : DataW H × List MemPlace} {fuel : Nat} (h : DataW.trod enc Try.prog W 0 (fun _ => true) true fuel 22 [u] = some y)
    (hS : ∀ n ∈ y.1.weights Try.prog 22, n ≤ reachBytes) : ∃ zs, Go.Proofs.Ytghdjkpndhcplaa.W.Ints W u zs := by
  have hr : reachBytes = 140737488351232 := by decide
  rcases open_ints Try.underlying22 Try.underlying3 (by kernel_rfl) h with ⟨hcs, _⟩ | ⟨x, len, cap, zs, hcs, _, hl, hm, hz, hx, hcell, _⟩
  · obtain rfl : u = .slice none 0 0 := by simpa using hcs
    exact ⟨[], none, 0, rfl, by decide, .inl rfl⟩
  · obtain rfl : u = .slice (some x) len cap := by simpa using hcs
    have hz' : zs.length = cap := by simpa using hz
    have ht : (zs.take len).length = len := by rw [List.length_take]; omega
    have hd : y.1 = .slice (lits .i64 (zs.take len)) (lits .i64 (zs.drop len)) := congrArg Prod.fst hx
    have hw := hS (((zs.take len).length + (zs.drop len).length) * Try.prog.bytesOf 3) (by rw [hd]; simp [DataW.weights, Try.underlying22, lits])
    have hby : Try.prog.bytesOf 3 = 8 := by kernel_rfl
    rw [hby, ht] at hw
    refine ⟨zs.take len, some x, cap, by rw [ht], by rw [ht]; omega, ?_⟩
    rw [ht]
    by_cases h0 : len = 0
    · left; rw [h0]; rfl
    · right
      obtain ⟨b, off, rfl, hc⟩ := ints_at hcell (by omega)
      refine ⟨b, off, rfl, block_lt_of_cell (hc 0 (by omega)), fun j hj => ?_⟩
      rw [hc j (by omega)]
      simp [List.getD, hj]

theorem slices_at {W : World} {x : Addr} {u : Value} (h : W.cell? (x.add 0) = some u) : ∃ b off, x = ⟨b, off, none⟩ := by
  obtain ⟨b, off, spot⟩ := x
  have hspot : spot = none := by simpa [Addr.add] using World.cell?_spot h
  exact ⟨b, off, by rw [hspot]⟩

/-- A LIST OF LISTS THAT CAME IN. -/
theorem open_grid_w {enc : TypeId × Value → H} {W : World} {u : Value} {y : DataW H × List MemPlace} {fuel : Nat} (h : DataW.trod enc Try.prog W 0 (fun _ => true) true fuel 23 [u] = some y)
    (hS : ∀ n ∈ y.1.weights Try.prog 23, n ≤ reachBytes) : ∃ ls, Go.Proofs.Ytghdjkpndhcplaa.W.Grid W u ls := by
  have hr : reachBytes = 140737488351232 := by decide
  rcases open_int_rows Try.underlying23 Try.underlying22 Try.underlying3 (by kernel_rfl) (by kernel_rfl) h with ⟨hcs, _⟩ | ⟨x, len, cap, A, L, C, Z, hcs, _, hl, hm, hx, hrow⟩
  · obtain rfl : u = .slice none 0 0 := by simpa using hcs
    exact ⟨[], none, 0, rfl, by decide, .inl rfl⟩
  · obtain rfl : u = .slice (some x) len cap := by simpa using hcs
    have hd : y.1 = .slice ((List.range len).map fun r => intRow .i64 (A r) (L r) (Z r)) ((List.range (cap - len)).map fun j => intRow .i64 (A (len + j)) (L (len + j)) (Z (len + j))) := congrArg Prod.fst hx
    have hw := hS ((((List.range len).map fun r => intRow (H := H) .i64 (A r) (L r) (Z r)).length + ((List.range (cap - len)).map fun j => intRow (H := H) .i64 (A (len + j)) (L (len + j)) (Z (len + j))).length) * Try.prog.bytesOf 22) (by rw [hd]; simp [DataW.weights, Try.underlying23])
    have hby : Try.prog.bytesOf 22 = 24 := by kernel_rfl
    rw [hby] at hw
    simp only [List.length_map, List.length_range] at hw
    have hrw : ∀ r, r < len → ∀ n ∈ (intRow (H := H) .i64 (A r) (L r) (Z r)).weights Try.prog 22, n ≤ reachBytes := fun r hr n hn => hS n (by
      rw [hd]
      simp only [DataW.weights, Try.underlying23]
      exact List.mem_cons_of_mem _ (List.mem_append_left _ (mem_all (List.mem_map.2 ⟨r, List.mem_range.2 hr, rfl⟩) n hn)))
    have hform : 0 < len → ∃ b off, x = ⟨b, off, none⟩ := fun h0 => by
      have h1 := (hrow 0 (by omega)).1
      exact slices_at h1
    refine ⟨(List.range len).map fun r => (Z r).take (L r), some x, cap, by simp, by simp; omega, ?_⟩
    by_cases h0 : len = 0
    · left; subst h0; rfl
    · right
      obtain ⟨b, off, rfl⟩ := hform (by omega)
      have hc0 := (hrow 0 (by omega)).1
      rw [Go.Proofs.Ytghdjkpndhcplaa.W.addr_add] at hc0
      refine ⟨b, off, rfl, block_lt_of_cell hc0, fun r hr => ?_⟩
      have hr' : r < len := by simpa using hr
      obtain ⟨hc, h1, h2, h3, h4, h5, h6⟩ := hrow r (by omega)
      rw [Go.Proofs.Ytghdjkpndhcplaa.W.addr_add] at hc
      refine ⟨_, hc, ?_⟩
      have hg : ((List.range len).map fun r => (Z r).take (L r)).getD r [] = (Z r).take (L r) := by simp [List.getD, hr']
      rw [hg]
      have hlt : ((Z r).take (L r)).length = L r := by rw [List.length_take]; omega
      cases ha : A r with
      | none =>
        have := h5 ha
        have hL : L r = 0 := by omega
        refine ⟨none, C r, by rw [hlt], by rw [hlt]; omega, .inl (by rw [hL]; rfl)⟩
      | some a' =>
        have hb8 := hrw r hr' ((((Z r).take (L r)).length + ((Z r).drop (L r)).length) * Try.prog.bytesOf 3) (by rw [ha]; simp [intRow, DataW.weights, Try.underlying22, lits])
        have hby : Try.prog.bytesOf 3 = 8 := by kernel_rfl
        rw [hby, hlt] at hb8
        refine ⟨some a', C r, by rw [hlt], by rw [hlt]; omega, ?_⟩
        rw [hlt]
        by_cases h0 : L r = 0
        · left; rw [h0]; rfl
        · right
          obtain ⟨b', off', rfl, hc'⟩ := ints_at (zs := Z r) (fun i hi => (h6 a' ha).2 i (by omega)) (by omega)
          refine ⟨b', off', rfl, block_lt_of_cell (hc' 0 (by omega)), fun j hj => ?_⟩
          rw [hc' j (by omega)]
          simp [List.getD, hj]

/-- A GAME THAT CAME IN. -/
theorem open_game {enc : TypeId × Value → H} {W : World} {base : Nat} {v : Value} {d : DataW H} {p : List MemPlace} {ts : List TypeId} {ds : List (DataW H)} {j : Nat}
    (hok : Value.okWide Try.prog W .any base 25 v) (h : DataW.Trod enc Try.prog W 0 (fun _ => true) true 25 v d p)
    (hS : (DataW.weightsEach Try.prog ts ds).all (· ≤ reachBytes) = true) (hts : ts[j]? = some 25) (hds : ds[j]? = some d) : ∃ g, Go.Proofs.Ytghdjkpndhcplaa.W.GameV W v g := by
  obtain ⟨c0, c1, c2, y0, y1, y2, n, rfl, rfl, -, h0, h1, h2⟩ := Joins.open_agg3 Try.underlying25 (by kernel_rfl) (by kernel_rfl) hok h
  have hall : ∀ n ∈ (DataW.agg [y0.1, y1.1, y2.1]).weights Try.prog 25, n ≤ reachBytes := fun n hn => by
    have := List.all_eq_true.1 hS n (DataW.weights_mem_each hts hds n hn)
    simpa using this
  simp only [DataW.weights, Try.underlying25, List.map_cons, List.map_nil, DataW.weightsEach, List.mem_append, List.append_nil] at hall
  obtain ⟨z0, k0⟩ := open_ints_w h0 (fun n hn => hall n (.inl hn))
  obtain ⟨z1, k1⟩ := open_ints_w h1 (fun n hn => hall n (.inr (.inl hn)))
  obtain ⟨z2, k2⟩ := open_grid_w h2 (fun n hn => hall n (.inr (.inr hn)))
  exact ⟨⟨z0, z1, z2⟩, _, _, _, rfl, k0, k1, k2⟩
end


/-- A WORLD FOR THE WITNESS. -/
noncomputable def bareWorld (os : Os) : World := World.holding Try.prog os ⟨#[], #[], []⟩
end Fr
end Go.Proofs.Ytghdjkpndhcplaa
