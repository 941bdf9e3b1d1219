/- What the frames of all laws share: the library's table lies in memory as the program lays it; four words that came in are a set. -/
import Derived.Test.YtghdjkpndhcplaaDoorWonP
import Derived.Test.YtghdjkpndhcplaaDoorCards
import Derived.Test.YtghdjkpndhcplaaDoorTie
import Derived.Test.YtghdjkpndhcplaaDoorHep
import Derived.Test.YtghdjkpndhcplaaDoorOnes
import Derived.Deep.Matrix
import Derived.Lib.SmallJoins
import Derived.SizedLaws
import Derived.WalkKit
import Derived.ProofKit
import Derived.OpenShut
import Derived.Deep.DeepHandedRow
import Derived.Lib.LaidTab
import Derived.Laws.IdiomArrays
namespace Go.Proofs.YtghdjkpndhcplaaDoor
namespace Fr
open Go.ChangeShapes Go.WideShapes Go.ChangeAt Go.RowKit Go.Deep Go.Lib

theorem own : ownKnob Tryd.prog.godebug = none := by kernel_rfl
theorem laidOut : laidOutB Tryd.prog = true := by kernel_rfl
theorem gTab : Tryd.prog.globalNamed "math/bits.deBruijn64tab" = some 0 := by kernel_rfl
theorem gTabType : (Tryd.prog.globals[0]?).map (·.type) = some 79 := by kernel_rfl
theorem cells57 : Tryd.prog.cellsOf 79 = 64 := by kernel_rfl
theorem cells5 : Tryd.prog.cellsOf 5 = 1 := by kernel_rfl
theorem cells25 : Tryd.prog.cellsOf 36 = 4 := by kernel_rfl
theorem cells24 : Tryd.prog.cellsOf 35 = 1 := by kernel_rfl

def zs : List Int := [0, 1, 56, 2, 57, 49, 28, 3, 61, 58, 42, 50, 38, 29, 17, 4, 62, 47, 59, 36, 45, 43, 51, 22, 53, 39, 33, 30, 24, 18, 12, 5, 63, 55, 48, 27, 60, 41, 37, 16, 46, 35, 44, 21, 52, 32, 23, 11, 54, 26, 40, 15, 34, 20, 31, 10, 25, 14, 19, 9, 13, 8, 7, 6]
theorem zs_at : ∀ j, j < 64 → zs.getD j 0 = ((Lib.deBruijn64tab.getD j 0 : Nat) : Int) := by decide +kernel

theorem table {W : World} (h : laidMetH Tryd.prog [("math/bits.deBruijn64tab", Rows.laid_math_bits_deBruijn64tab)] W) : Lib.TabIs Tryd.prog W "math/bits.deBruijn64tab" .u8 zs :=
  Lib.tabIs_of_head (rest := []) gTab gTabType Tryd.underlying79 Tryd.underlying5 cells5 cells57 h
theorem tab {W : World} (h : laidMetH Tryd.prog [("math/bits.deBruijn64tab", Rows.laid_math_bits_deBruijn64tab)] W) : Go.Proofs.YtghdjkpndhcplaaDoor.W.Tab W := fun j hj => by
  have h1 := (table h).cell gTab j hj
  rw [zs_at j hj] at h1
  exact h1

/-- IN A CONTEXT OF ITS OWN. -/
theorem list4 {α : Type} (l : List α) (h : (⟨l⟩ : Array α).size = 4) : ∃ a b c d, l = [a, b, c, d] := by
  match l, h with
  | [a, b, c, d], _ => exact ⟨a, b, c, d, rfl⟩

theorem wf_u64 {x : Int} (h : (Lit.int .u64 x).wf = true) : 0 ≤ x ∧ x < 18446744073709551616 := by
  have := bounds_u64 h
  omega

/-- FOUR WORDS THAT CAME IN ARE A SET. -/
theorem open_row {H : Type} {enc : TypeId × Value → H} {W : World} {base : Nat} {v : Value} {d : DataW H} {p : List MemPlace} {sp : Nat → Bool} {hb : Nat}
    (hok : Value.okWide Tryd.prog W .any base 36 v) (h : DataW.Trod enc Tryd.prog W hb sp true 36 v d p) : ∃ s : BitVec 256, v = .agg #[.int .u64 (P.wrd s 0), .int .u64 (P.wrd s 1), .int .u64 (P.wrd s 2), .int .u64 (P.wrd s 3)] := by
  obtain ⟨cs, rfl, hsz, _⟩ : ∃ cs, v = .agg cs ∧ cs.size = Tryd.prog.cellsOf 36 ∧ Row.okWide Tryd.prog W .any base 36 cs := by
    simpa [Value.okWide, Tryd.underlying36] using hok
  rw [cells25] at hsz
  obtain ⟨l⟩ := cs
  obtain ⟨c0, c1, c2, c3, rfl⟩ := list4 l hsz
  obtain ⟨fuel, hf⟩ := h
  obtain ⟨y0, y1, y2, y3, m, hx, hy0, hy1, hy2, hy3⟩ := trod_array4 Tryd.underlying36 cells24 hf
  obtain ⟨x0, e0, rfl, w0⟩ := DataW.trod_int Tryd.underlying35 hy0
  obtain ⟨x1, e1, rfl, w1⟩ := DataW.trod_int Tryd.underlying35 hy1
  obtain ⟨x2, e2, rfl, w2⟩ := DataW.trod_int Tryd.underlying35 hy2
  obtain ⟨x3, e3, rfl, w3⟩ := DataW.trod_int Tryd.underlying35 hy3
  simp at e0 e1 e2 e3
  subst e0 e1 e2 e3
  obtain ⟨s, g0, g1, g2, g3⟩ := P.of_words x0 x1 x2 x3 (wf_u64 w0) (wf_u64 w1) (wf_u64 w2) (wf_u64 w3)
  exact ⟨s, by rw [g0, g1, g2, g3]⟩

theorem cells28 : Tryd.prog.cellsOf 37 = 4 := by kernel_rfl
/-- .. OF THE NAMED TYPE. -/
theorem open_set {H : Type} {enc : TypeId × Value → H} {W : World} {base : Nat} {v : Value} {d : DataW H} {p : List MemPlace} {sp : Nat → Bool} {hb : Nat}
    (hok : Value.okWide Tryd.prog W .any base 37 v) (h : DataW.Trod enc Tryd.prog W hb sp true 37 v d p) : ∃ s : BitVec 256, v = .agg #[.int .u64 (P.wrd s 0), .int .u64 (P.wrd s 1), .int .u64 (P.wrd s 2), .int .u64 (P.wrd s 3)] := by
  obtain ⟨cs, rfl, hsz, _⟩ : ∃ cs, v = .agg cs ∧ cs.size = Tryd.prog.cellsOf 37 ∧ Row.okWide Tryd.prog W .any base 37 cs := by
    simpa [Value.okWide, Tryd.underlying37] using hok
  rw [cells28] at hsz
  obtain ⟨l⟩ := cs
  obtain ⟨c0, c1, c2, c3, rfl⟩ := list4 l hsz
  obtain ⟨fuel, hf⟩ := h
  obtain ⟨y0, y1, y2, y3, m, hx, hy0, hy1, hy2, hy3⟩ := trod_array4 Tryd.underlying37 cells24 hf
  obtain ⟨x0, e0, rfl, w0⟩ := DataW.trod_int Tryd.underlying35 hy0
  obtain ⟨x1, e1, rfl, w1⟩ := DataW.trod_int Tryd.underlying35 hy1
  obtain ⟨x2, e2, rfl, w2⟩ := DataW.trod_int Tryd.underlying35 hy2
  obtain ⟨x3, e3, rfl, w3⟩ := DataW.trod_int Tryd.underlying35 hy3
  simp at e0 e1 e2 e3
  subst e0 e1 e2 e3
  obtain ⟨s, g0, g1, g2, g3⟩ := P.of_words x0 x1 x2 x3 (wf_u64 w0) (wf_u64 w1) (wf_u64 w2) (wf_u64 w3)
  exact ⟨s, by rw [g0, g1, g2, g3]⟩

section
variable {H : Type}
theorem mem_all {P : Program} {e : TypeId} : ∀ {l : List (DataW H)} {d : DataW H}, d ∈ l → ∀ n ∈ d.weights P e, n ∈ DataW.weightsAll P e l
  | [], _, h, _, _ => by cases h
  | d0 :: l, d, h, n, hn => by
    simp only [DataW.weightsAll, List.mem_append]
    rcases List.mem_cons.1 h with rfl | h
    · exact .inl hn
    · exact .inr (mem_all h n hn)

/-- A LIST OF NUMBERS THAT CAME IN, WITH THE BYTES THAT IT MAY TAKE. -/
theorem open_ints_w {enc : TypeId × Value → H} {W : World} {u : Value} {y : DataW H × List MemPlace} {fuel : Nat} (h : DataW.trod enc Tryd.prog W 0 (fun _ => true) true fuel 22 [u] = some y)
    (hS : ∀ n ∈ y.1.weights Tryd.prog 22, n ≤ reachBytes) : ∃ zs, Go.Proofs.YtghdjkpndhcplaaDoor.W.Ints W u zs := by
  have hr : reachBytes = 140737488351232 := by decide
  rcases open_ints Tryd.underlying22 Tryd.underlying3 (by kernel_rfl) h with ⟨hcs, _⟩ | ⟨x, len, cap, zs, hcs, _, hl, hm, hz, hx, hcell, _⟩
  · obtain rfl : u = .slice none 0 0 := by simpa using hcs
    exact ⟨[], none, 0, rfl, by decide, .inl rfl⟩
  · obtain rfl : u = .slice (some x) len cap := by simpa using hcs
    have hz' : zs.length = cap := by simpa using hz
    have ht : (zs.take len).length = len := by rw [List.length_take]; omega
    have hd : y.1 = .slice (lits .i64 (zs.take len)) (lits .i64 (zs.drop len)) := congrArg Prod.fst hx
    have hw := hS (((zs.take len).length + (zs.drop len).length) * Tryd.prog.bytesOf 3) (by rw [hd]; simp [DataW.weights, Tryd.underlying22, lits])
    have hby : Tryd.prog.bytesOf 3 = 8 := by kernel_rfl
    rw [hby, ht] at hw
    refine ⟨zs.take len, some x, cap, by rw [ht], by rw [ht]; omega, ?_⟩
    rw [ht]
    by_cases h0 : len = 0
    · left; rw [h0]; rfl
    · right
      obtain ⟨b, off, rfl, hc⟩ := ints_at hcell (by omega)
      refine ⟨b, off, rfl, block_lt_of_cell (hc 0 (by omega)), fun j hj => ?_⟩
      rw [hc j (by omega)]
      simp [List.getD, hj]

/-- .. AND EACH IN ITS BOUNDS. -/
theorem open_ints64_w {enc : TypeId × Value → H} {W : World} {u : Value} {y : DataW H × List MemPlace} {fuel : Nat} (h : DataW.trod enc Tryd.prog W 0 (fun _ => true) true fuel 22 [u] = some y)
    (hS : ∀ n ∈ y.1.weights Tryd.prog 22, n ≤ reachBytes) : ∃ zs, Go.Proofs.YtghdjkpndhcplaaDoor.W.Ints W u zs ∧ ∀ z ∈ zs, -9223372036854775808 ≤ z ∧ z ≤ 9223372036854775807 := by
  obtain ⟨zs', hI⟩ := open_ints_w h hS
  rcases open_ints Tryd.underlying22 Tryd.underlying3 (by kernel_rfl) h with ⟨hcs, _⟩ | ⟨x, len, cap, zs, hcs, _, hl, hm, hz, hx, hcell, hwz⟩
  · obtain rfl : u = .slice none 0 0 := by simpa using hcs
    exact ⟨[], ⟨none, 0, rfl, by decide, .inl rfl⟩, fun z hz => by cases hz⟩
  · obtain rfl : u = .slice (some x) len cap := by simpa using hcs
    obtain ⟨ao, cap', e, hb, h2⟩ := hI
    injection e with e1 e2 e3
    subst e1 e3
    refine ⟨zs', ⟨_, _, by rw [e2], hb, h2⟩, fun z hzm => ?_⟩
    obtain ⟨j, hj⟩ := List.mem_iff_getElem?.1 hzm
    obtain ⟨hjl, hje⟩ := List.getElem?_eq_some_iff.1 hj
    rcases h2 with h2 | ⟨b, off, hx2, hlt, hc⟩
    · rw [h2] at hzm; cases hzm
    · injection hx2 with hx2
      have h3 := hc j hjl
      have hz' : zs.length = cap := by simpa using hz
      obtain ⟨zj, hzj⟩ : ∃ zj, zs[j]? = some zj := ⟨_, List.getElem?_eq_getElem (by omega)⟩
      have h4 := hcell j (by omega)
      have h5 : zs'.getD j 0 = z := by rw [List.getD_eq_getElem?_getD, hj]; rfl
      have h6 : zs.getD j 0 = zj := by rw [List.getD_eq_getElem?_getD, hzj]; rfl
      rw [hx2, Go.Proofs.YtghdjkpndhcplaaDoor.W.addr_add, h3, h5] at h4
      have h7 : z = zj := by
        first
          | (rw [h6] at h4; injection h4 with h4; injection h4 with _ h4; done)
          | (simp at h4; rw [h4, hzj]; rfl)
          | (simp [hzj] at h4; exact h4)
      rw [h7]
      exact bounds_i64 (hwz zj (List.mem_of_getElem? hzj))

theorem slices_at {W : World} {x : Addr} {u : Value} (h : W.cell? (x.add 0) = some u) : ∃ b off, x = ⟨b, off, none⟩ := by
  obtain ⟨b, off, spot⟩ := x
  have hspot : spot = none := by simpa [Addr.add] using World.cell?_spot h
  exact ⟨b, off, by rw [hspot]⟩

/-- A LIST OF LISTS THAT CAME IN. -/
theorem open_grid_w {enc : TypeId × Value → H} {W : World} {u : Value} {y : DataW H × List MemPlace} {fuel : Nat} (h : DataW.trod enc Tryd.prog W 0 (fun _ => true) true fuel 23 [u] = some y)
    (hS : ∀ n ∈ y.1.weights Tryd.prog 23, n ≤ reachBytes) : ∃ ls, Go.Proofs.YtghdjkpndhcplaaDoor.W.Grid W u ls := by
  have hr : reachBytes = 140737488351232 := by decide
  rcases open_int_rows Tryd.underlying23 Tryd.underlying22 Tryd.underlying3 (by kernel_rfl) (by kernel_rfl) h with ⟨hcs, _⟩ | ⟨x, len, cap, A, L, C, Z, hcs, _, hl, hm, hx, hrow⟩
  · obtain rfl : u = .slice none 0 0 := by simpa using hcs
    exact ⟨[], none, 0, rfl, by decide, .inl rfl⟩
  · obtain rfl : u = .slice (some x) len cap := by simpa using hcs
    have hd : y.1 = .slice ((List.range len).map fun r => intRow .i64 (A r) (L r) (Z r)) ((List.range (cap - len)).map fun j => intRow .i64 (A (len + j)) (L (len + j)) (Z (len + j))) := congrArg Prod.fst hx
    have hw := hS ((((List.range len).map fun r => intRow (H := H) .i64 (A r) (L r) (Z r)).length + ((List.range (cap - len)).map fun j => intRow (H := H) .i64 (A (len + j)) (L (len + j)) (Z (len + j))).length) * Tryd.prog.bytesOf 22) (by rw [hd]; simp [DataW.weights, Tryd.underlying23])
    have hby : Tryd.prog.bytesOf 22 = 24 := by kernel_rfl
    rw [hby] at hw
    simp only [List.length_map, List.length_range] at hw
    have hrw : ∀ r, r < len → ∀ n ∈ (intRow (H := H) .i64 (A r) (L r) (Z r)).weights Tryd.prog 22, n ≤ reachBytes := fun r hr n hn => hS n (by
      rw [hd]
      simp only [DataW.weights, Tryd.underlying23]
      exact List.mem_cons_of_mem _ (List.mem_append_left _ (mem_all (List.mem_map.2 ⟨r, List.mem_range.2 hr, rfl⟩) n hn)))
    have hform : 0 < len → ∃ b off, x = ⟨b, off, none⟩ := fun h0 => by
      have h1 := (hrow 0 (by omega)).1
      exact slices_at h1
    refine ⟨(List.range len).map fun r => (Z r).take (L r), some x, cap, by simp, by simp; omega, ?_⟩
    by_cases h0 : len = 0
    · left; subst h0; rfl
    · right
      obtain ⟨b, off, rfl⟩ := hform (by omega)
      have hc0 := (hrow 0 (by omega)).1
      rw [Go.Proofs.YtghdjkpndhcplaaDoor.W.addr_add] at hc0
      refine ⟨b, off, rfl, block_lt_of_cell hc0, fun r hr => ?_⟩
      have hr' : r < len := by simpa using hr
      obtain ⟨hc, h1, h2, h3, h4, h5, h6⟩ := hrow r (by omega)
      rw [Go.Proofs.YtghdjkpndhcplaaDoor.W.addr_add] at hc
      refine ⟨_, hc, ?_⟩
      have hg : ((List.range len).map fun r => (Z r).take (L r)).getD r [] = (Z r).take (L r) := by simp [List.getD, hr']
      rw [hg]
      have hlt : ((Z r).take (L r)).length = L r := by rw [List.length_take]; omega
      cases ha : A r with
      | none =>
        have := h5 ha
        have hL : L r = 0 := by omega
        refine ⟨none, C r, by rw [hlt], by rw [hlt]; omega, .inl (by rw [hL]; rfl)⟩
      | some a' =>
        have hb8 := hrw r hr' ((((Z r).take (L r)).length + ((Z r).drop (L r)).length) * Tryd.prog.bytesOf 3) (by rw [ha]; simp [intRow, DataW.weights, Tryd.underlying22, lits])
        have hby : Tryd.prog.bytesOf 3 = 8 := by kernel_rfl
        rw [hby, hlt] at hb8
        refine ⟨some a', C r, by rw [hlt], by rw [hlt]; omega, ?_⟩
        rw [hlt]
        by_cases h0 : L r = 0
        · left; rw [h0]; rfl
        · right
          obtain ⟨b', off', rfl, hc'⟩ := ints_at (zs := Z r) (fun i hi => (h6 a' ha).2 i (by omega)) (by omega)
          refine ⟨b', off', rfl, block_lt_of_cell (hc' 0 (by omega)), fun j hj => ?_⟩
          rw [hc' j (by omega)]
          simp [List.getD, hj]

/-- A LIST OF LISTS THAT CAME IN, EACH WITHIN ITS CAPACITY. -/
theorem open_scr_w {enc : TypeId × Value → H} {W : World} {u : Value} {y : DataW H × List MemPlace} {fuel : Nat} (h : DataW.trod enc Tryd.prog W 0 (fun _ => true) true fuel 23 [u] = some y)
    (hS : ∀ n ∈ y.1.weights Tryd.prog 23, n ≤ reachBytes) : ∃ ls, Go.Proofs.YtghdjkpndhcplaaDoor.W.Scr W u ls := by
  have hr : reachBytes = 140737488351232 := by decide
  rcases open_int_rows Tryd.underlying23 Tryd.underlying22 Tryd.underlying3 (by kernel_rfl) (by kernel_rfl) h with ⟨hcs, _⟩ | ⟨x, len, cap, A, L, C, Z, hcs, _, hl, hm, hx, hrow⟩
  · obtain rfl : u = .slice none 0 0 := by simpa using hcs
    exact ⟨[], none, 0, rfl, by decide, .inl rfl⟩
  · obtain rfl : u = .slice (some x) len cap := by simpa using hcs
    have hd : y.1 = .slice ((List.range len).map fun r => intRow .i64 (A r) (L r) (Z r)) ((List.range (cap - len)).map fun j => intRow .i64 (A (len + j)) (L (len + j)) (Z (len + j))) := congrArg Prod.fst hx
    have hw := hS ((((List.range len).map fun r => intRow (H := H) .i64 (A r) (L r) (Z r)).length + ((List.range (cap - len)).map fun j => intRow (H := H) .i64 (A (len + j)) (L (len + j)) (Z (len + j))).length) * Tryd.prog.bytesOf 22) (by rw [hd]; simp [DataW.weights, Tryd.underlying23])
    have hby : Tryd.prog.bytesOf 22 = 24 := by kernel_rfl
    rw [hby] at hw
    simp only [List.length_map, List.length_range] at hw
    have hrw : ∀ r, r < len → ∀ n ∈ (intRow (H := H) .i64 (A r) (L r) (Z r)).weights Tryd.prog 22, n ≤ reachBytes := fun r hr n hn => hS n (by
      rw [hd]
      simp only [DataW.weights, Tryd.underlying23]
      exact List.mem_cons_of_mem _ (List.mem_append_left _ (mem_all (List.mem_map.2 ⟨r, List.mem_range.2 hr, rfl⟩) n hn)))
    have hform : 0 < len → ∃ b off, x = ⟨b, off, none⟩ := fun h0 => by
      have h1 := (hrow 0 (by omega)).1
      exact slices_at h1
    refine ⟨(List.range len).map fun r => (Z r).take (L r), some x, cap, by simp, by simp; omega, ?_⟩
    by_cases h0 : len = 0
    · left; subst h0; rfl
    · right
      obtain ⟨b, off, rfl⟩ := hform (by omega)
      have hc0 := (hrow 0 (by omega)).1
      rw [Go.Proofs.YtghdjkpndhcplaaDoor.W.addr_add] at hc0
      refine ⟨b, off, rfl, block_lt_of_cell hc0, fun r hr => ?_⟩
      have hr' : r < len := by simpa using hr
      obtain ⟨hc, h1, h2, h3, h4, h5, h6⟩ := hrow r (by omega)
      rw [Go.Proofs.YtghdjkpndhcplaaDoor.W.addr_add] at hc
      refine ⟨_, hc, ?_, by show L r ≤ C r; omega⟩
      have hg : ((List.range len).map fun r => (Z r).take (L r)).getD r [] = (Z r).take (L r) := by simp [List.getD, hr']
      rw [hg]
      have hlt : ((Z r).take (L r)).length = L r := by rw [List.length_take]; omega
      cases ha : A r with
      | none =>
        have := h5 ha
        have hL : L r = 0 := by omega
        refine ⟨none, C r, by rw [hlt], by rw [hlt]; omega, .inl (by rw [hL]; rfl)⟩
      | some a' =>
        have hb8 := hrw r hr' ((((Z r).take (L r)).length + ((Z r).drop (L r)).length) * Tryd.prog.bytesOf 3) (by rw [ha]; simp [intRow, DataW.weights, Tryd.underlying22, lits])
        have hby : Tryd.prog.bytesOf 3 = 8 := by kernel_rfl
        rw [hby, hlt] at hb8
        refine ⟨some a', C r, by rw [hlt], by rw [hlt]; omega, ?_⟩
        rw [hlt]
        by_cases h0 : L r = 0
        · left; rw [h0]; rfl
        · right
          obtain ⟨b', off', rfl, hc'⟩ := ints_at (zs := Z r) (fun i hi => (h6 a' ha).2 i (by omega)) (by omega)
          refine ⟨b', off', rfl, block_lt_of_cell (hc' 0 (by omega)), fun j hj => ?_⟩
          rw [hc' j (by omega)]
          simp [List.getD, hj]

/-- A GAME THAT CAME IN. -/
theorem open_game {enc : TypeId × Value → H} {W : World} {base : Nat} {v : Value} {d : DataW H} {p : List MemPlace} {ts : List TypeId} {ds : List (DataW H)} {j : Nat}
    (hok : Value.okWide Tryd.prog W .any base 25 v) (h : DataW.Trod enc Tryd.prog W 0 (fun _ => true) true 25 v d p)
    (hS : (DataW.weightsEach Tryd.prog ts ds).all (· ≤ reachBytes) = true) (hts : ts[j]? = some 25) (hds : ds[j]? = some d) : ∃ g, Go.Proofs.YtghdjkpndhcplaaDoor.W.GameV W v g := by
  obtain ⟨c0, c1, c2, y0, y1, y2, n, rfl, rfl, -, h0, h1, h2⟩ := Joins.open_agg3 Tryd.underlying25 (by kernel_rfl) (by kernel_rfl) hok h
  have hall : ∀ n ∈ (DataW.agg [y0.1, y1.1, y2.1]).weights Tryd.prog 25, n ≤ reachBytes := fun n hn => by
    have := List.all_eq_true.1 hS n (DataW.weights_mem_each hts hds n hn)
    simpa using this
  simp only [DataW.weights, Tryd.underlying25, List.map_cons, List.map_nil, DataW.weightsEach, List.mem_append, List.append_nil] at hall
  obtain ⟨z0, k0⟩ := open_ints_w h0 (fun n hn => hall n (.inl hn))
  obtain ⟨z1, k1⟩ := open_ints_w h1 (fun n hn => hall n (.inr (.inl hn)))
  obtain ⟨z2, k2⟩ := open_grid_w h2 (fun n hn => hall n (.inr (.inr hn)))
  exact ⟨⟨z0, z1, z2⟩, _, _, _, rfl, k0, k1, k2⟩
end

/-- A WORLD FOR THE WITNESS: the settled one, the table holding what its initialiser lays. -/
noncomputable def laidWorld (os : Os) : World :=
  { World.holding Tryd.prog os ⟨#[], #[], []⟩ with heap := (World.holding Tryd.prog os ⟨#[], #[], []⟩).heap.modify 0 fun
      | .cells _ t frozen => .cells #[.int .u8 0, .int .u8 1, .int .u8 56, .int .u8 2, .int .u8 57, .int .u8 49, .int .u8 28, .int .u8 3, .int .u8 61, .int .u8 58, .int .u8 42, .int .u8 50, .int .u8 38, .int .u8 29, .int .u8 17, .int .u8 4, .int .u8 62, .int .u8 47, .int .u8 59, .int .u8 36, .int .u8 45, .int .u8 43, .int .u8 51, .int .u8 22, .int .u8 53, .int .u8 39, .int .u8 33, .int .u8 30, .int .u8 24, .int .u8 18, .int .u8 12, .int .u8 5, .int .u8 63, .int .u8 55, .int .u8 48, .int .u8 27, .int .u8 60, .int .u8 41, .int .u8 37, .int .u8 16, .int .u8 46, .int .u8 35, .int .u8 44, .int .u8 21, .int .u8 52, .int .u8 32, .int .u8 23, .int .u8 11, .int .u8 54, .int .u8 26, .int .u8 40, .int .u8 15, .int .u8 34, .int .u8 20, .int .u8 31, .int .u8 10, .int .u8 25, .int .u8 14, .int .u8 19, .int .u8 9, .int .u8 13, .int .u8 8, .int .u8 7, .int .u8 6] t frozen
      | o => o }
end Fr
end Go.Proofs.YtghdjkpndhcplaaDoor
