/- What the frames of stage 14's laws share: games, tuples and lists of tuples that came in. -/
import Derived.Test.YteeaojciobmcaaaRows
import Derived.Test.YteeaojciobmcaaaHep
import Derived.Test.YteeaojciobmcaaaUpA
import Derived.Deep.Matrix
import Derived.Lib.SmallJoins
import Derived.SizedLaws
import Derived.WalkKit
import Derived.ProofKit
import Derived.OpenShut
import Derived.Deep.DeepHandedRow
import Derived.Laws.IdiomArrays
namespace Go.Proofs.Yteeaojciobmcaaa
namespace Fr
open Go.ChangeShapes Go.WideShapes Go.ChangeAt Go.RowKit Go.Deep Go.Lib
open Go.Proofs.Yteeaojciobmcaaa.W (tc tl ct)

theorem own : ownKnob Try.prog.godebug = none := by kernel_rfl
theorem laidOut : laidOutB Try.prog = true := by kernel_rfl
theorem cellsTup : Try.prog.cellsOf 24 = 5 := by kernel_rfl
theorem cellsBool : Try.prog.cellsOf 4 = 1 := by kernel_rfl
theorem cellsArr : Try.prog.cellsOf 22 = 4 := by kernel_rfl
theorem cellsInt : Try.prog.cellsOf 3 = 1 := by kernel_rfl
theorem list5 {α : Type} (l : List α) (h : l.length = 5) : ∃ a b c d e, l = [a, b, c, d, e] := by
  match l, h with
  | [a, b, c, d, e], _ => exact ⟨a, b, c, d, e, rfl⟩
/-- A tuple's counters are ints. -/
def In64 (t : P.Tup) : Prop := ∀ k, k < 4 → -9223372036854775808 ≤ ct t k ∧ ct t k ≤ 9223372036854775807
section
variable {H : Type}
theorem mem_all {P : Program} {e : TypeId} : ∀ {l : List (DataW H)} {d : DataW H}, d ∈ l → ∀ n ∈ d.weights P e, n ∈ DataW.weightsAll P e l
  | [], _, h, _, _ => by cases h
  | d0 :: l, d, h, n, hn => by
    simp only [DataW.weightsAll, List.mem_append]
    rcases List.mem_cons.1 h with rfl | h
    · exact .inl hn
    · exact .inr (mem_all h n hn)

/-- A LIST OF NUMBERS THAT CAME IN, WITH THE BYTES THAT IT MAY TAKE. -/
theorem open_ints_w {enc : TypeId × Value → H} {W : World} {u : Value} {y : DataW H × List MemPlace} {fuel : Nat} (h : DataW.trod enc Try.prog W 0 (fun _ => true) true fuel 30 [u] = some y)
    (hS : ∀ n ∈ y.1.weights Try.prog 30, n ≤ reachBytes) : ∃ zs, Go.Proofs.Yteeaojciobmcaaa.W.Ints W u zs := by
  have hr : reachBytes = 140737488351232 := by decide
  rcases open_ints Try.underlying30 Try.underlying3 (by kernel_rfl) h with ⟨hcs, _⟩ | ⟨x, len, cap, zs, hcs, _, hl, hm, hz, hx, hcell, _⟩
  · obtain rfl : u = .slice none 0 0 := by simpa using hcs
    exact ⟨[], none, 0, rfl, by decide, .inl rfl⟩
  · obtain rfl : u = .slice (some x) len cap := by simpa using hcs
    have hz' : zs.length = cap := by simpa using hz
    have ht : (zs.take len).length = len := by rw [List.length_take]; omega
    have hd : y.1 = .slice (lits .i64 (zs.take len)) (lits .i64 (zs.drop len)) := congrArg Prod.fst hx
    have hw := hS (((zs.take len).length + (zs.drop len).length) * Try.prog.bytesOf 3) (by rw [hd]; simp [DataW.weights, Try.underlying30, lits])
    have hby : Try.prog.bytesOf 3 = 8 := by kernel_rfl
    rw [hby, ht] at hw
    refine ⟨zs.take len, some x, cap, by rw [ht], by rw [ht]; omega, ?_⟩
    rw [ht]
    by_cases h0 : len = 0
    · left; rw [h0]; rfl
    · right
      obtain ⟨b, off, rfl, hc⟩ := ints_at hcell (by omega)
      refine ⟨b, off, rfl, block_lt_of_cell (hc 0 (by omega)), fun j hj => ?_⟩
      rw [hc j (by omega)]
      simp [List.getD, hj]

theorem slices_at {W : World} {x : Addr} {u : Value} (h : W.cell? (x.add 0) = some u) : ∃ b off, x = ⟨b, off, none⟩ := by
  obtain ⟨b, off, spot⟩ := x
  have hspot : spot = none := by simpa [Addr.add] using World.cell?_spot h
  exact ⟨b, off, by rw [hspot]⟩

/-- A LIST OF LISTS THAT CAME IN. -/
theorem open_grid_w {enc : TypeId × Value → H} {W : World} {u : Value} {y : DataW H × List MemPlace} {fuel : Nat} (h : DataW.trod enc Try.prog W 0 (fun _ => true) true fuel 31 [u] = some y)
    (hS : ∀ n ∈ y.1.weights Try.prog 31, n ≤ reachBytes) : ∃ ls, Go.Proofs.Yteeaojciobmcaaa.W.Grid W u ls := by
  have hr : reachBytes = 140737488351232 := by decide
  rcases open_int_rows Try.underlying31 Try.underlying30 Try.underlying3 (by kernel_rfl) (by kernel_rfl) h with ⟨hcs, _⟩ | ⟨x, len, cap, A, L, C, Z, hcs, _, hl, hm, hx, hrow⟩
  · obtain rfl : u = .slice none 0 0 := by simpa using hcs
    exact ⟨[], none, 0, rfl, by decide, .inl rfl⟩
  · obtain rfl : u = .slice (some x) len cap := by simpa using hcs
    have hd : y.1 = .slice ((List.range len).map fun r => intRow .i64 (A r) (L r) (Z r)) ((List.range (cap - len)).map fun j => intRow .i64 (A (len + j)) (L (len + j)) (Z (len + j))) := congrArg Prod.fst hx
    have hw := hS ((((List.range len).map fun r => intRow (H := H) .i64 (A r) (L r) (Z r)).length + ((List.range (cap - len)).map fun j => intRow (H := H) .i64 (A (len + j)) (L (len + j)) (Z (len + j))).length) * Try.prog.bytesOf 30) (by rw [hd]; simp [DataW.weights, Try.underlying31])
    have hby : Try.prog.bytesOf 30 = 24 := by kernel_rfl
    rw [hby] at hw
    simp only [List.length_map, List.length_range] at hw
    have hrw : ∀ r, r < len → ∀ n ∈ (intRow (H := H) .i64 (A r) (L r) (Z r)).weights Try.prog 30, n ≤ reachBytes := fun r hr n hn => hS n (by
      rw [hd]
      simp only [DataW.weights, Try.underlying31]
      exact List.mem_cons_of_mem _ (List.mem_append_left _ (mem_all (List.mem_map.2 ⟨r, List.mem_range.2 hr, rfl⟩) n hn)))
    have hform : 0 < len → ∃ b off, x = ⟨b, off, none⟩ := fun h0 => by
      have h1 := (hrow 0 (by omega)).1
      exact slices_at h1
    refine ⟨(List.range len).map fun r => (Z r).take (L r), some x, cap, by simp, by simp; omega, ?_⟩
    by_cases h0 : len = 0
    · left; subst h0; rfl
    · right
      obtain ⟨b, off, rfl⟩ := hform (by omega)
      have hc0 := (hrow 0 (by omega)).1
      rw [Go.Proofs.Yteeaojciobmcaaa.W.addr_add] at hc0
      refine ⟨b, off, rfl, block_lt_of_cell hc0, fun r hr => ?_⟩
      have hr' : r < len := by simpa using hr
      obtain ⟨hc, h1, h2, h3, h4, h5, h6⟩ := hrow r (by omega)
      rw [Go.Proofs.Yteeaojciobmcaaa.W.addr_add] at hc
      refine ⟨_, hc, ?_⟩
      have hg : ((List.range len).map fun r => (Z r).take (L r)).getD r [] = (Z r).take (L r) := by simp [List.getD, hr']
      rw [hg]
      have hlt : ((Z r).take (L r)).length = L r := by rw [List.length_take]; omega
      cases ha : A r with
      | none =>
        have := h5 ha
        have hL : L r = 0 := by omega
        refine ⟨none, C r, by rw [hlt], by rw [hlt]; omega, .inl (by rw [hL]; rfl)⟩
      | some a' =>
        have hb8 := hrw r hr' ((((Z r).take (L r)).length + ((Z r).drop (L r)).length) * Try.prog.bytesOf 3) (by rw [ha]; simp [intRow, DataW.weights, Try.underlying30, lits])
        have hby : Try.prog.bytesOf 3 = 8 := by kernel_rfl
        rw [hby, hlt] at hb8
        refine ⟨some a', C r, by rw [hlt], by rw [hlt]; omega, ?_⟩
        rw [hlt]
        by_cases h0 : L r = 0
        · left; rw [h0]; rfl
        · right
          obtain ⟨b', off', rfl, hc'⟩ := ints_at (zs := Z r) (fun i hi => (h6 a' ha).2 i (by omega)) (by omega)
          refine ⟨b', off', rfl, block_lt_of_cell (hc' 0 (by omega)), fun j hj => ?_⟩
          rw [hc' j (by omega)]
          simp [List.getD, hj]

/-- A GAME THAT CAME IN. -/
theorem open_game {enc : TypeId × Value → H} {W : World} {base : Nat} {v : Value} {d : DataW H} {p : List MemPlace} {ts : List TypeId} {ds : List (DataW H)} {j : Nat}
    (hok : Value.okWide Try.prog W .any base 33 v) (h : DataW.Trod enc Try.prog W 0 (fun _ => true) true 33 v d p)
    (hS : (DataW.weightsEach Try.prog ts ds).all (· ≤ reachBytes) = true) (hts : ts[j]? = some 33) (hds : ds[j]? = some d) : ∃ g, Go.Proofs.Yteeaojciobmcaaa.W.GameV W v g := by
  obtain ⟨c0, c1, c2, y0, y1, y2, n, rfl, rfl, -, h0, h1, h2⟩ := Joins.open_agg3 Try.underlying33 (by kernel_rfl) (by kernel_rfl) hok h
  have hall : ∀ n ∈ (DataW.agg [y0.1, y1.1, y2.1]).weights Try.prog 33, n ≤ reachBytes := fun n hn => by
    have := List.all_eq_true.1 hS n (DataW.weights_mem_each hts hds n hn)
    simpa using this
  simp only [DataW.weights, Try.underlying33, List.map_cons, List.map_nil, DataW.weightsEach, List.mem_append, List.append_nil] at hall
  obtain ⟨z0, k0⟩ := open_ints_w h0 (fun n hn => hall n (.inl hn))
  obtain ⟨z1, k1⟩ := open_ints_w h1 (fun n hn => hall n (.inr (.inl hn)))
  obtain ⟨z2, k2⟩ := open_grid_w h2 (fun n hn => hall n (.inr (.inr hn)))
  exact ⟨⟨z0, z1, z2⟩, _, _, _, rfl, k0, k1, k2⟩
end


section
variable {H : Type}
/-- Five cells that read as a tuple are one. -/
theorem trod_tup {enc : TypeId × Value → H} {W : World} {base : Nat} {sp : Nat → Bool} {held : Bool} {fuel : Nat} {cs : List Value} {x : DataW H × List MemPlace} (h : DataW.trod enc Try.prog W base sp held fuel 24 cs = some x) : ∃ t : P.Tup, cs = tl t ∧ In64 t := by
  obtain ⟨y0, y1, n, -, hlen, h0, h1⟩ := trod_struct2 Try.underlying24 h
  rw [cellsTup] at hlen
  obtain ⟨c0, c1, c2, c3, c4, rfl⟩ := list5 cs hlen
  have h0' : DataW.trod enc Try.prog W base sp held n 4 [c0] = some y0 := by simpa [cellsBool] using h0
  have h1' : DataW.trod enc Try.prog W base sp held n 22 [c1, c2, c3, c4] = some y1 := by simpa [cellsArr] using h1
  obtain ⟨b, e, -⟩ := DataW.trod_bool Try.underlying4 h0'
  obtain ⟨z0, z1, z2, z3, m, -, g0, g1, g2, g3⟩ := trod_array4 Try.underlying22 cellsInt h1'
  obtain ⟨x0, e0, -, w0⟩ := DataW.trod_int Try.underlying3 g0
  obtain ⟨x1, e1, -, w1⟩ := DataW.trod_int Try.underlying3 g1
  obtain ⟨x2, e2, -, w2⟩ := DataW.trod_int Try.underlying3 g2
  obtain ⟨x3, e3, -, w3⟩ := DataW.trod_int Try.underlying3 g3
  simp at e e0 e1 e2 e3
  subst e e0 e1 e2 e3
  have b0 := bounds_i64 w0
  have b1 := bounds_i64 w1
  have b2 := bounds_i64 w2
  have b3 := bounds_i64 w3
  refine ⟨⟨b, x0, x1, x2, x3⟩, rfl, fun k hk => ?_⟩
  match k, hk with
  | 0, _ => exact ⟨b0.1, by have := b0.2; show x0 ≤ _; omega⟩
  | 1, _ => exact ⟨b1.1, by have := b1.2; show x1 ≤ _; omega⟩
  | 2, _ => exact ⟨b2.1, by have := b2.2; show x2 ≤ _; omega⟩
  | 3, _ => exact ⟨b3.1, by have := b3.2; show x3 ≤ _; omega⟩
/-- A TUPLE THAT CAME IN. -/
theorem open_tup {enc : TypeId × Value → H} {W : World} {base : Nat} {v : Value} {d : DataW H} {p : List MemPlace} {sp : Nat → Bool} {held : Bool} {b0 : Nat}
    (hok : Value.okWide Try.prog W .any base 24 v) (h : DataW.Trod enc Try.prog W b0 sp held 24 v d p) : ∃ t : P.Tup, v = .agg (tc t) ∧ In64 t := by
  obtain ⟨cs, rfl, hsz⟩ := okWide_struct Try.underlying24 hok
  obtain ⟨fuel, hf⟩ := h
  obtain ⟨t, ht, hi⟩ := trod_tup hf
  refine ⟨t, ?_, hi⟩
  congr 1
  apply Array.ext'
  exact ht
/-- A LIST OF TUPLES THAT CAME IN, WITH THE BYTES THAT IT MAY TAKE. -/
theorem open_tups {enc : TypeId × Value → H} {W : World} {base : Nat} {v : Value} {d : DataW H} {p : List MemPlace} {ts : List TypeId} {ds : List (DataW H)} {j : Nat}
    (hok : Value.okWide Try.prog W .any base 39 v) (h : DataW.Trod enc Try.prog W 0 (fun _ => true) true 39 v d p)
    (hS : (DataW.weightsEach Try.prog ts ds).all (· ≤ reachBytes) = true) (hts : ts[j]? = some 39) (hds : ds[j]? = some d) :
    ∃ l, Go.Proofs.Yteeaojciobmcaaa.W.TupsV W v l ∧ l.length * 40 ≤ 140737488351232 ∧ ∀ i, i < l.length → In64 (l.getD i .zero) := by
  obtain ⟨a0, len0, cap0, rfl⟩ := okWide_slice Try.underlying39 hok
  obtain ⟨fuel, hf⟩ := h
  have hr : reachBytes = 140737488351232 := by decide
  rcases open_slice Try.underlying39 hf with ⟨hcs, _⟩ | ⟨a, len, cap, m, n, D, Pl, hcs, -, hl, hm, hmm, hx, hel⟩
  · simp [Value.cells] at hcs
    obtain ⟨rfl, rfl, rfl⟩ := hcs
    exact ⟨[], ⟨none, 0, rfl, by decide, .inl rfl⟩, by decide, fun i hi => nomatch hi⟩
  · simp [Value.cells] at hcs
    obtain ⟨rfl, rfl, rfl⟩ := hcs
    have hmc : m = cap0 := by rw [hmm]; rfl
    subst hmc
    have hd : d = .slice ((List.range len0).map D) ((List.range (m - len0)).map fun j => D (len0 + j)) := congrArg Prod.fst hx
    have hall : ∀ n ∈ d.weights Try.prog 39, n ≤ reachBytes := fun n hn => by
      have := List.all_eq_true.1 hS n (DataW.weights_mem_each hts hds n hn)
      simpa using this
    have hby : Try.prog.bytesOf 24 = 40 := by kernel_rfl
    have hw := hall ((len0 + (m - len0)) * Try.prog.bytesOf 24) (by rw [hd]; simp [DataW.weights, Try.underlying39])
    rw [hby, hr] at hw
    have each : ∀ i, i < len0 → ∃ t : P.Tup, (∀ (k : Nat) (u : Value), (tl t)[k]? = some u → W.cell? ((a.add (i * 5)).add k) = some u) ∧ In64 t := fun i hi => by
      obtain ⟨cs', h1, h2⟩ := hel i (by omega)
      obtain ⟨t, rfl, ht⟩ := trod_tup h2
      rw [cellsTup] at h1
      obtain ⟨-, -, hc⟩ := World.cells?_some h1
      refine ⟨t, fun k u hu => ?_, ht⟩
      have hk : k < 5 := (List.getElem?_eq_some_iff.1 hu).1
      rw [hc k hk]
      exact hu
    haveI : Inhabited P.Tup := ⟨.zero⟩
    obtain ⟨f, hfx⟩ := choose_lt each
    have hg : ∀ i, i < len0 → ((List.range len0).map f).getD i .zero = f i := fun i hi => by
      rw [List.getD_eq_getElem?_getD, List.getElem?_map, List.getElem?_range hi]
      rfl
    refine ⟨(List.range len0).map f, ⟨some a, m, by simp, by simp; omega, ?_⟩, by simp; omega, fun i hi => by
      have hi : i < len0 := by simpa using hi
      rw [hg i hi]
      exact (hfx i hi).2⟩
    by_cases h0 : len0 = 0
    · left; rw [h0]; rfl
    · right
      have hc0 := (hfx 0 (by omega)).1 0 _ rfl
      obtain ⟨b, off, spot⟩ := a
      have hspot : spot = none := by
        have := World.cell?_spot hc0
        simpa [Addr.add] using this
      subst hspot
      refine ⟨b, off, rfl, ?_, fun i hi k u hu => ?_⟩
      · have := block_lt_of_cell hc0
        simpa [Addr.add] using this
      · have hi : i < len0 := by simpa using hi
        rw [hg i hi] at hu
        have := (hfx i hi).1 k u hu
        rwa [Go.Proofs.Yteeaojciobmcaaa.W.addr_add, Go.Proofs.Yteeaojciobmcaaa.W.addr_add] at this
end
/-- A WORLD FOR THE WITNESS. -/
noncomputable def bareWorld (os : Os) : World := World.holding Try.prog os ⟨#[], #[], []⟩
end Fr
end Go.Proofs.Yteeaojciobmcaaa
