/- Slices in memory: what lies in one, which one is the call's own; append. -/
import Derived.Test.YtghdjkpndhcplaaMoves
import Derived.Test.YtghdjkpndhcplaaRegion
import Derived.Maps.AppendAt
import Derived.ArgAppend
import Derived.OwnWalk
import Derived.Laws.OwnMore
import Derived.Deep.AppendLies
import Derived.Laws.MakeOwn
namespace Go.Proofs.Ytghdjkpndhcplaa
open Go.RowKit
namespace W

theorem addr_add (b off j : Nat) : (⟨b, off, none⟩ : Addr).add j = ⟨b, off + j, none⟩ := by unfold Addr.add; split <;> simp_all
theorem below_of_grown {w w' : World} (h : w.grownBy w' none) : Below w.heap.size w w' := ⟨h.os, h.tape, h.output, h.size, fun k hk => h.block k hk (by simp)⟩
theorem grown_of_below {w w' : World} (h : Below w.heap.size w w') (row : Option Nat) : w.grownBy w' row := ⟨h.os, h.tape, h.output, h.size, fun k hk _ => h.block k hk⟩

/-- An element type of one cell, and its slices. -/
structure El (e sl : TypeId) (z : Value) (bytes : Nat) : Prop where
  und : Try.prog.underlying sl = some (.slice e)
  info : ∃ i, Try.prog.info? e = some i ∧ i.zero = some z ∧ i.size = 1 ∧ i.bytes = bytes
  cell : z.cells = #[z]
theorem El.one {e sl : TypeId} {z : Value} {bytes : Nat} (E : El e sl z bytes) : z.cells.size = 1 := by rw [E.cell]; rfl
theorem info_int : (Try.prog.info? 3).map (fun i => (i.zero, i.size, i.bytes)) = some (some (.int .i64 0), 1, 8) := by kernel_rfl
theorem info_ints : (Try.prog.info? 22).map (fun i => (i.zero, i.size, i.bytes)) = some (some (.slice none 0 0), 1, 24) := by kernel_rfl
theorem elInt : El 3 22 (.int .i64 0) 8 := ⟨Try.underlying22, by obtain ⟨i, h, h0, h1, h2⟩ := info_parts info_int; exact ⟨i, h, h0, h1, h2⟩, rfl⟩
theorem elInts : El 22 23 (.slice none 0 0) 24 := ⟨Try.underlying23, by obtain ⟨i, h, h0, h1, h2⟩ := info_parts info_ints; exact ⟨i, h, h0, h1, h2⟩, rfl⟩

/-- A block that is known whole. -/
def Box (w : World) (b : Nat) (t : TypeId) (cs : Array Value) : Prop := w.heap[b]? = some (.cells cs t (0, 0))
theorem Box.lt {w : World} {b : Nat} {t : TypeId} {cs : Array Value} (h : Box w b t cs) : b < w.heap.size := (Array.getElem?_eq_some_iff.1 h).1
theorem Box.cell {w : World} {b : Nat} {t : TypeId} {cs : Array Value} (h : Box w b t cs) (j : Nat) (u : Value) (hu : cs[j]? = some u) : w.cell? ⟨b, j, none⟩ = some u := by rw [cell_of_row w b j cs t (0, 0) h]; exact hu
theorem Box.frozen {w : World} {b : Nat} {t : TypeId} {cs : Array Value} (h : Box w b t cs) (j : Nat) : w.frozen? ⟨b, j, none⟩ = false := frozen_of_row w b j cs t h
theorem Box.new (w : World) (t : TypeId) (cs : Array Value) : Box (w.alloc (.cells cs t)) w.heap.size t cs := heap_alloc_new w _
theorem Box.grown {w w' : World} {b : Nat} {t : TypeId} {cs : Array Value} {row : Option Nat} (h : Box w b t cs) (hg : w.grownBy w' row) (hne : some b ≠ row) : Box w' b t cs := (hg.block b h.lt hne).trans h
theorem Box.keep {w w' : World} {b : Nat} {t : TypeId} {cs : Array Value} (h : Box w b t cs) (hg : w.grownBy w' none) : Box w' b t cs := h.grown hg (by simp)
theorem Box.alloc {w : World} {b : Nat} {t : TypeId} {cs : Array Value} (h : Box w b t cs) (o : Obj) : Box (w.alloc o) b t cs := h.keep (World.grownBy_alloc w o none)
theorem Box.set {w : World} {b : Nat} {t : TypeId} {cs : Array Value} (h : Box w b t cs) (i : Nat) (u : Value) : Box (w.setCell ⟨b, i, none⟩ u) b t (cs.setIfInBounds i u) := by
  unfold Box at h ⊢
  simp [World.setCell, Array.getElem?_modify, h]
theorem Box.far {w : World} {b : Nat} {t : TypeId} {cs : Array Value} (h : Box w b t cs) {p : Addr} (hp : b ≠ p.block) (u : Value) : Box (w.setCell p u) b t cs := (Below.heap_setCell w p u b hp).trans h
theorem grown_set (w : World) (p : Addr) (u : Value) : w.grownBy (w.setCell p u) (some p.block) := ⟨rfl, rfl, rfl, by simp [World.setCell], fun k _ hk => Below.heap_setCell w p u k (fun e => hk (by rw [e]))⟩
/-- Blocks from B on may turn, and new ones come. -/
theorem below_mono_grown {w w' : World} {B : Nat} {row : Option Nat} (hg : w.grownBy w' row) (hB : B ≤ w.heap.size) (hr : ∀ k, row = some k → B ≤ k) : Below B w w' := (Below.refl B w).grown hg hB hr

/-- A slice of cells, wherever it lies. -/
def Row (w : World) (v : Value) (xs : List Value) : Prop := ∃ ao cap, v = .slice ao xs.length cap ∧ (xs = [] ∨ ∃ b off, ao = some ⟨b, off, none⟩ ∧ b < w.heap.size ∧ ∀ j u, xs[j]? = some u → w.cell? ⟨b, off + j, none⟩ = some u)
theorem Row.grown {w w' : World} {v : Value} {xs : List Value} (h : Row w v xs) (hg : w.grownBy w' none) : Row w' v xs := by
  obtain ⟨ao, cap, rfl, h2⟩ := h
  refine ⟨ao, cap, rfl, ?_⟩
  rcases h2 with h2 | ⟨b, off, h3, h4, h5⟩
  · exact .inl h2
  · exact .inr ⟨b, off, h3, Nat.lt_of_lt_of_le h4 hg.size, fun j u hu => hg.cell (h5 j u hu) (by simp)⟩
theorem Row.drew {w : World} {v : Value} {xs : List Value} (h : Row w v xs) : Row w.drew v xs := h
theorem row_one (w : World) (u : Value) (t : TypeId) : Row (w.alloc (.cells #[u] t)) (.slice (some ⟨w.heap.size, 0, none⟩) 1 1) [u] := by
  refine ⟨_, _, rfl, .inr ⟨_, _, rfl, by simp, fun j x hx => ?_⟩⟩
  match j, hx with
  | 0, hx => simp at hx; subst hx; simp
theorem Ints.row {w : World} {v : Value} {zs : List Int} (h : Ints w v zs) : Row w v (zs.map (Value.int .i64)) := by
  obtain ⟨ao, cap, rfl, _, h2⟩ := h
  refine ⟨ao, cap, by simp, ?_⟩
  rcases h2 with rfl | ⟨b, off, h3, h4, h5⟩
  · exact .inl rfl
  · refine .inr ⟨b, off, h3, h4, fun j u hu => ?_⟩
    simp only [List.getElem?_map, Option.map_eq_some_iff] at hu
    obtain ⟨z, hz, rfl⟩ := hu
    have hj : j < zs.length := (List.getElem?_eq_some_iff.1 hz).1
    rw [h5 j hj, List.getD_eq_getElem?_getD, hz]
    rfl
theorem Ints.grown {w w' : World} {v : Value} {zs : List Int} (h : Ints w v zs) (hg : w.grownBy w' none) : Ints w' v zs := h.on (below_of_grown hg)
theorem Grid.grown {w w' : World} {v : Value} {ls : List (List Int)} (h : Grid w v ls) (hg : w.grownBy w' none) : Grid w' v ls := h.on (below_of_grown hg)
theorem one_ints (zs : List Int) : ∀ u ∈ zs.map (Value.int .i64), u.oneCell' = true := by
  intro u hu
  obtain ⟨z, _, rfl⟩ := List.mem_map.1 hu
  rfl

/-- The call's own list of numbers. -/
def OwnI (w : World) (lo : Nat) (v : Value) (zs : List Int) : Prop := w.ownsRow lo 3 1 v zs.length (zs.map (Value.int .i64))
theorem OwnI.nil (w : World) (lo : Nat) : OwnI w lo (.slice none 0 0) [] := World.ownsRow_nil w lo _ 1
theorem own_at {w : World} {lo : Nat} {e : TypeId} {v : Value} {n : Nat} {xs : List Value} (h : w.ownsRow lo e 1 v n xs) : ∃ ao cap, v = .slice ao n cap ∧ (xs = [] ∨ ∃ b, ao = some ⟨b, 0, none⟩ ∧ lo ≤ b ∧ b < w.heap.size ∧ ∀ j u, xs[j]? = some u → w.cell? ⟨b, 0 + j, none⟩ = some u) := by
  have h1 := h.1
  rcases h.2 with ⟨rfl, rfl⟩ | ⟨g, cap, cur, rfl, hg, hh, hnc, hcm, hcs, ht⟩
  · exact ⟨none, 0, rfl, .inl (List.eq_nil_of_length_eq_zero (by simpa using h1))⟩
  · refine ⟨_, cap, rfl, .inr ⟨g, rfl, hg, (Array.getElem?_eq_some_iff.1 hh).1, fun j u hu => ?_⟩⟩
    have := h.cells (g := g) rfl j u hu
    rw [addr_add] at this
    exact this
theorem own_row {w : World} {lo : Nat} {e : TypeId} {v : Value} {xs : List Value} (h : w.ownsRow lo e 1 v xs.length xs) : Row w v xs := by
  obtain ⟨ao, cap, rfl, h2⟩ := own_at h
  refine ⟨ao, cap, rfl, ?_⟩
  rcases h2 with h2 | ⟨b, h3, _, h4, h5⟩
  · exact .inl h2
  · exact .inr ⟨b, 0, h3, h4, h5⟩
theorem OwnI.ints {w : World} {lo : Nat} {v : Value} {zs : List Int} (h : OwnI w lo v zs) (hb : zs.length ≤ 17592186043904) : Ints w v zs := by
  obtain ⟨ao, cap, rfl, h2⟩ := own_at h
  refine ⟨ao, cap, rfl, hb, ?_⟩
  rcases h2 with h2 | ⟨b, h3, _, h4, h5⟩
  · exact .inl (List.map_eq_nil_iff.1 h2)
  · refine .inr ⟨b, 0, h3, h4, fun j hj => h5 j _ ?_⟩
    rw [List.getElem?_map, List.getElem?_eq_getElem hj, List.getD_eq_getElem?_getD, List.getElem?_eq_getElem hj]
    rfl
theorem own_grown {w w' : World} {lo : Nat} {e : TypeId} {v : Value} {n : Nat} {xs : List Value} (h : w.ownsRow lo e 1 v n xs) (hg : w.grownBy w' none) : w'.ownsRow lo e 1 v n xs := h.kept hg (by cases v.ownBlock <;> simp)
theorem own_more {w : World} {lo lo' : Nat} {e : TypeId} {v : Value} {n : Nat} {xs : List Value} (h : w.ownsRow lo e 1 v n xs) (hl : lo' ≤ lo) : w.ownsRow lo' e 1 v n xs := by
  refine ⟨h.1, ?_⟩
  rcases h.2 with h2 | ⟨g, cap, cur, hv, hg, r⟩
  · exact .inl h2
  · exact .inr ⟨g, cap, cur, hv, Nat.le_trans hl hg, r⟩
/-- An own row that was there lies in a block that is there. -/
theorem own_lt {w : World} {lo : Nat} {e : TypeId} {v : Value} {n : Nat} {xs : List Value} (h : w.ownsRow lo e 1 v n xs) : ∀ k, v.ownBlock = some k → lo ≤ k ∧ k < w.heap.size := h.lt

section
variable {e sl : TypeId} {z : Value} {bytes : Nat}
/-- append of a list behind the call's own one. -/
theorem run_append (E : El e sl z bytes) (ty : TypeId) {w : World} {lo : Nat} {v : Value} {n : Nat} {xs : List Value} (hown : w.ownsRow lo e 1 v n xs) {x : Value} {ys : List Value} (hx : Row w x ys) (h1 : ∀ u ∈ ys, u.oneCell' = true)
    (hb : (n + ys.length) * bytes ≤ 140737488355328) (hn : n + ys.length ≤ 140737488355328) (hlo : lo ≤ w.heap.size) :
    ∃ v' w', (Builtin.append_ #[sl, sl] ty #[v, x]).run Try.prog w = .ok v' w' ∧ w'.ownsRow lo e 1 v' (n + ys.length) (xs ++ ys) ∧ w.grownBy w' v.ownBlock ∧ (v'.ownBlock = v.ownBlock ∨ v'.ownBlock = some w.heap.size) := by
  obtain ⟨i, hi, hz, hs, hby⟩ := E.info
  obtain ⟨ao, c, rfl, hx⟩ := hx
  have key : ∀ ad : Addr, (∀ j u, ys[j]? = some u → w.cell? (ad.add j) = some u) → ∃ v' w', (Builtin.append_ #[sl, sl] ty #[v, .slice (some ad) ys.length c]).run Try.prog w = .ok v' w' ∧ w'.ownsRow lo e 1 v' (n + ys.length) (xs ++ ys) ∧ w.grownBy w' v.ownBlock ∧ (v'.ownBlock = v.ownBlock ∨ v'.ownBlock = some w.heap.size) := by
    intro ad had
    obtain ⟨v', w', hr, h2, h3, _, h5⟩ := run_append_own_at (P := Try.prog) w lo sl ty e i z 1 bytes E.und hi hz hs hby E.one (by decide) v n xs hown ad ys.length c ys (by simp) had h1 (by unfold maxLen; omega) hb hlo
    exact ⟨v', w', hr, h2, h3, h5⟩
  rcases hx with rfl | ⟨b, off, rfl, hlt, hc⟩
  · cases ao with
    | some ad => exact key ad (by intro j u hu; simp at hu)
    | none =>
      refine ⟨v, w, ?_, by simpa using hown, Rg.grown_refl _ _, .inl rfl⟩
      rcases hown.2 with ⟨rfl, rfl⟩ | ⟨g, cap, cur, rfl, _, _, hnc, _⟩
      · simp [Builtin.append_, run_underlying E.und, sizeOf, typeInfo, hi, Builtin.lenOf, Builtin.firstCells]
      · simp [Builtin.append_, run_underlying E.und, sizeOf, typeInfo, hi, Builtin.lenOf, Builtin.firstCells, hnc, storeCells]
  · exact key ⟨b, off, none⟩ fun j u hu => by rw [addr_add]; exact hc j u hu

/-- append behind a slice without room: nothing that was there turns. -/
theorem run_append_new (E : El e sl z bytes) (ty : TypeId) {w : World} {lo : Nat} {ao : Option Addr} (hown : w.ownsRow lo e 1 (.slice ao 0 0) 0 []) {x : Value} {ys : List Value} (hx : Row w x ys) (h1 : ∀ u ∈ ys, u.oneCell' = true)
    (hb : ys.length * bytes ≤ 140737488355328) (hn : ys.length ≤ 140737488355328) (hlo : lo ≤ w.heap.size) :
    ∃ v' w', (Builtin.append_ #[sl, sl] ty #[.slice ao 0 0, x]).run Try.prog w = .ok v' w' ∧ w'.ownsRow lo e 1 v' ys.length ys ∧ w.grownBy w' none ∧ ((ys = [] ∧ v' = .slice ao 0 0) ∨ (ys ≠ [] ∧ v'.ownBlock = some w.heap.size)) := by
  obtain ⟨i, hi, hz, hs, hby⟩ := E.info
  by_cases hy : ys = []
  · subst hy
    obtain ⟨xo, c, rfl, _⟩ := hx
    refine ⟨.slice ao 0 0, w, ?_, hown, Rg.grown_refl _ _, .inl ⟨rfl, rfl⟩⟩
    cases ao with
    | none =>
      cases xo <;> simp [Builtin.append_, run_underlying E.und, sizeOf, typeInfo, hi, Builtin.lenOf, Builtin.firstCells, loadCells, loadCellsFrom]
    | some ad =>
      cases xo <;> simp [Builtin.append_, run_underlying E.und, sizeOf, typeInfo, hi, Builtin.lenOf, Builtin.firstCells, loadCells, loadCellsFrom, storeCells]
  · obtain ⟨xo, c, rfl, hx⟩ := hx
    obtain ⟨b, off, rfl, hlt, hc⟩ := hx.resolve_left hy
    have hpos : 0 < ys.length := List.length_pos_iff.2 hy
    have had : ∀ j u, ys[j]? = some u → w.cell? ((⟨b, off, none⟩ : Addr).add j) = some u := fun j u hu => by rw [addr_add]; exact hc j u hu
    cases ao with
    | none =>
      obtain ⟨v', w', hr, h2, h3, _, h5⟩ := run_append_own_at (P := Try.prog) w lo sl ty e i z 1 bytes E.und hi hz hs hby E.one (by decide) (.slice none 0 0) 0 [] (World.ownsRow_nil _ _ _ _) ⟨b, off, none⟩ ys.length c ys (by simp) had h1 (by unfold maxLen; omega) (by simpa using hb) hlo
      refine ⟨v', w', hr, by simpa using h2, h3, .inr ⟨hy, ?_⟩⟩
      rcases h5 with h5 | h5
      · obtain ⟨g, cap, rfl, _⟩ := (by simpa using h2 : w'.ownsRow lo e 1 v' ys.length ys).form hpos
        simp [Value.ownBlock] at h5
      · exact h5
    | some ad =>
      obtain ⟨v', w', hr, h2, h3⟩ := run_append_arg_grows (P := Try.prog) w sl ty e i z 1 bytes E.und hi hz hs hby E.one (by decide) ad 0 0 [] (by simp) (by intro j u hu; simp at hu) ⟨b, off, none⟩ ys.length c ys (by simp) had (by omega) (by unfold maxLen; omega) (by simpa using hb)
      obtain ⟨g, cap, hv, hg1, hg2⟩ := (by simpa using h2 : w'.ownsRow w.heap.size e 1 v' ys.length ys).form hpos
      refine ⟨v', w', hr, own_more (by simpa using h2) hlo, h3, .inr ⟨hy, ?_⟩⟩
      have hr2 := hr
      rw [run_append_grow (P := Try.prog) w sl ty e i z E.und hi hz ad 0 0 [] (by simp) (by intro j u hu; simp at hu) ⟨b, off, none⟩ ys.length c ys (by simp [hs]) had (by omega) (by omega) (growslice_fits (by omega) (by rw [hby]; simpa using hb))] at hr2
      injection hr2 with e1 _
      rw [← e1]
      rfl

/-- make of a slice of zeros: the world is spelled out. -/
def Made (w : World) (e : TypeId) (z : Value) (n : Nat) : World := w.alloc (.cells (madeCells #[z] n) e)
theorem run_make1 (E : El e sl z bytes) (n : Nat) (hb : bytes * n ≤ 281474976710656) (hn : n ≤ 9223372036854775807) (w : World) :
    (Instr.makeSlice sl (.int .i64 (n : Int)) (.int .i64 (n : Int))).run Try.prog w = .ok (.slice (some ⟨w.heap.size, 0, none⟩) n n) (Made w e z n) := by
  obtain ⟨i, hi, hz, hs, hby⟩ := E.info
  have hb' : (i.bytes : Int) * (n : Int) ≤ 281474976710656 := by
    have h : ((i.bytes * n : Nat) : Int) ≤ 281474976710656 := by rw [hby]; omega
    rwa [Int.natCast_mul] at h
  have hr := run_make (P := Try.prog) w sl e i z E.und hi hz .i64 .i64 n n (by omega) (Int.le_refl _) hb' (by omega)
  simp only [Int.toNat_natCast] at hr
  rw [hr, E.cell, hs, Nat.mul_one]
  rfl
/-- make, in the walk. -/
theorem wpl_make (E : El e sl z bytes) {w : World} {ops : Array Oper} {rest : List Oper} {o : Oper} {a : Act} {Q : Exit → Act → World → Prop} (hgd : o.guard = none) (s x : Operand)
    (ho : o.op = .makeSlice sl s x) (n : Nat) (hs : a.eval s = .int .i64 n) (hx : a.eval x = .int .i64 n) (hb : bytes * n ≤ 281474976710656) (hn : n ≤ 9223372036854775807)
    (h : ∀ w', w'.ownsRow w.heap.size e 1 (.slice (some ⟨w.heap.size, 0, none⟩) n n) n (List.replicate n z) → w.grownBy w' none → w'.heap.size = w.heap.size + 1 → wpList Try.prog ops Q rest (a.put o.dst (.slice (some ⟨w.heap.size, 0, none⟩) n n)) w') : wpList Try.prog ops Q (o :: rest) a w := by
  have hrun := run_make1 E n hb hn w
  refine wpList_plain hgd fun _ hK => ?_
  unfold Oper.wp execOp
  simp only [ho, hs, hx, Sem.run_bind, Sem.run_pure, hrun, Result.andThen_ok]
  refine hK _ _ (h _ ?_ (World.grownBy_alloc _ _ _) (by unfold Made; simp))
  have h2 := World.ownsRow_lit (e := e) (size := 1) (base := w.heap.size) w (madeCells #[z] n) n (Nat.le_refl _) (by unfold maxLen; exact hn) (by rw [size_madeCells, Nat.mul_one])
  rw [toList_madeCells_one] at h2
  exact h2
theorem made_own {w : World} {lo : Nat} (hlo : lo ≤ w.heap.size) (n : Nat) (hn : n ≤ 9223372036854775807) : (Made w e z n).ownsRow lo e 1 (.slice (some ⟨w.heap.size, 0, none⟩) n n) n (List.replicate n z) := by
  have h := World.ownsRow_lit (e := e) (size := 1) w (madeCells #[z] n) n hlo (by unfold maxLen; exact hn) (by rw [size_madeCells, Nat.mul_one])
  rw [toList_madeCells_one] at h
  exact h
theorem made_grown (w : World) (n : Nat) : w.grownBy (Made w e z n) none := World.grownBy_alloc _ _ _
theorem made_size (w : World) (n : Nat) : (Made w e z n).heap.size = w.heap.size + 1 := by unfold Made; simp

/-- append as an operation. -/
theorem op_append {o : Oper} {A : Act} {w w' : World} {K : Act → World → Prop} {Q : Exit → Act → World → Prop} {s x : Operand} {v xv v' : Value}
    (ho : o.op = .call { callee := .builtin .append, args := #[s, x], argTypes := #[sl, sl] }) (hs : A.eval s = v) (hx : A.eval x = xv)
    (hrun : (Builtin.append_ #[sl, sl] o.type #[v, xv]).run Try.prog w = .ok v' w') (hK : K (A.put o.dst v') w') : o.wp Try.prog A w K Q := by
  unfold Oper.wp execOp
  simp only [ho, resolve, invoke, builtin, Sem.run_bind, Sem.run_pure, Result.andThen_ok, List.map_toArray, List.map_cons, List.map_nil, hs, hx, hrun]
  exact hK

/-- .. in a plain region: behind the call's own list. -/
theorem wpl_append (E : El e sl z bytes) {w : World} {ops : Array Oper} {rest : List Oper} {o : Oper} {a : Act} {Q : Exit → Act → World → Prop} (hgd : o.guard = none) (s x : Operand)
    (ho : o.op = .call { callee := .builtin .append, args := #[s, x], argTypes := #[sl, sl] }) {lo : Nat} {v : Value} {n : Nat} {xs : List Value} (hs : a.eval s = v) (hown : w.ownsRow lo e 1 v n xs)
    {xv : Value} {ys : List Value} (hx : a.eval x = xv) (hr : Row w xv ys) (h1 : ∀ u ∈ ys, u.oneCell' = true) (hb : (n + ys.length) * bytes ≤ 140737488355328) (hn : n + ys.length ≤ 140737488355328) (hlo : lo ≤ w.heap.size)
    (h : ∀ v' w', w'.ownsRow lo e 1 v' (n + ys.length) (xs ++ ys) → w.grownBy w' v.ownBlock → (v'.ownBlock = v.ownBlock ∨ v'.ownBlock = some w.heap.size) → wpList Try.prog ops Q rest (a.put o.dst v') w') : wpList Try.prog ops Q (o :: rest) a w := by
  obtain ⟨v', w', hrun, h2, h3, h4⟩ := run_append E o.type hown hr h1 hb hn hlo
  exact wpList_plain hgd fun _ hK => op_append ho hs hx hrun (hK _ _ (h v' w' h2 h3 h4))

/-- .. behind a slice without room. -/
theorem wpl_append_new (E : El e sl z bytes) {w : World} {ops : Array Oper} {rest : List Oper} {o : Oper} {a : Act} {Q : Exit → Act → World → Prop} (hgd : o.guard = none) (s x : Operand)
    (ho : o.op = .call { callee := .builtin .append, args := #[s, x], argTypes := #[sl, sl] }) {lo : Nat} {ao : Option Addr} (hs : a.eval s = .slice ao 0 0) (hown : w.ownsRow lo e 1 (.slice ao 0 0) 0 [])
    {xv : Value} {ys : List Value} (hx : a.eval x = xv) (hr : Row w xv ys) (h1 : ∀ u ∈ ys, u.oneCell' = true) (hb : ys.length * bytes ≤ 140737488355328) (hn : ys.length ≤ 140737488355328) (hlo : lo ≤ w.heap.size)
    (h : ∀ v' w', w'.ownsRow lo e 1 v' ys.length ys → w.grownBy w' none → ((ys = [] ∧ v' = .slice ao 0 0) ∨ (ys ≠ [] ∧ v'.ownBlock = some w.heap.size)) → wpList Try.prog ops Q rest (a.put o.dst v') w') : wpList Try.prog ops Q (o :: rest) a w := by
  obtain ⟨v', w', hrun, h2, h3, h4⟩ := run_append_new E o.type hown hr h1 hb hn hlo
  exact wpList_plain hgd fun _ hK => op_append ho hs hx hrun (hK _ _ (h v' w' h2 h3 h4))
end
end W
end Go.Proofs.Ytghdjkpndhcplaa
