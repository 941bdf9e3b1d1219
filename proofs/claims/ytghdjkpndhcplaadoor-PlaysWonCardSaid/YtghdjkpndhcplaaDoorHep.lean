/- Slices in memory: what lies in one, which one is the call's own; append. What is the call's own: lists that share no memory; a game of such. Lists and games that are read in a walk. -/
import Derived.Test.YtghdjkpndhcplaaDoorMoves
import Derived.Test.YtghdjkpndhcplaaDoorReg
import Derived.Maps.AppendAt
import Derived.ArgAppend
import Derived.OwnWalk
import Derived.Laws.OwnMore
import Derived.Deep.AppendLies
import Derived.Laws.MakeOwn
section
namespace Go.Proofs.YtghdjkpndhcplaaDoor
open Go.RowKit
namespace W

theorem addr_add (b off j : Nat) : (⟨b, off, none⟩ : Addr).add j = ⟨b, off + j, none⟩ := by unfold Addr.add; split <;> simp_all
theorem below_of_grown {w w' : World} (h : w.grownBy w' none) : Below w.heap.size w w' := ⟨h.os, h.tape, h.output, h.size, fun k hk => h.block k hk (by simp)⟩
theorem grown_of_below {w w' : World} (h : Below w.heap.size w w') (row : Option Nat) : w.grownBy w' row := ⟨h.os, h.tape, h.output, h.size, fun k hk _ => h.block k hk⟩

/-- An element type of one cell, and its slices. -/
structure El (e sl : TypeId) (z : Value) (bytes : Nat) : Prop where
  und : Tryd.prog.underlying sl = some (.slice e)
  info : ∃ i, Tryd.prog.info? e = some i ∧ i.zero = some z ∧ i.size = 1 ∧ i.bytes = bytes
  cell : z.cells = #[z]
theorem El.one {e sl : TypeId} {z : Value} {bytes : Nat} (E : El e sl z bytes) : z.cells.size = 1 := by rw [E.cell]; rfl
theorem info_int : (Tryd.prog.info? 3).map (fun i => (i.zero, i.size, i.bytes)) = some (some (.int .i64 0), 1, 8) := by kernel_rfl
theorem info_ints : (Tryd.prog.info? 22).map (fun i => (i.zero, i.size, i.bytes)) = some (some (.slice none 0 0), 1, 24) := by kernel_rfl
theorem elInt : El 3 22 (.int .i64 0) 8 := ⟨Tryd.underlying22, by obtain ⟨i, h, h0, h1, h2⟩ := info_parts info_int; exact ⟨i, h, h0, h1, h2⟩, rfl⟩
theorem elInts : El 22 23 (.slice none 0 0) 24 := ⟨Tryd.underlying23, by obtain ⟨i, h, h0, h1, h2⟩ := info_parts info_ints; exact ⟨i, h, h0, h1, h2⟩, rfl⟩

/-- A block that is known whole. -/
def Box (w : World) (b : Nat) (t : TypeId) (cs : Array Value) : Prop := w.heap[b]? = some (.cells cs t (0, 0))
theorem Box.lt {w : World} {b : Nat} {t : TypeId} {cs : Array Value} (h : Box w b t cs) : b < w.heap.size := (Array.getElem?_eq_some_iff.1 h).1
theorem Box.cell {w : World} {b : Nat} {t : TypeId} {cs : Array Value} (h : Box w b t cs) (j : Nat) (u : Value) (hu : cs[j]? = some u) : w.cell? ⟨b, j, none⟩ = some u := by rw [cell_of_row w b j cs t (0, 0) h]; exact hu
theorem Box.frozen {w : World} {b : Nat} {t : TypeId} {cs : Array Value} (h : Box w b t cs) (j : Nat) : w.frozen? ⟨b, j, none⟩ = false := frozen_of_row w b j cs t h
theorem Box.new (w : World) (t : TypeId) (cs : Array Value) : Box (w.alloc (.cells cs t)) w.heap.size t cs := heap_alloc_new w _
theorem Box.grown {w w' : World} {b : Nat} {t : TypeId} {cs : Array Value} {row : Option Nat} (h : Box w b t cs) (hg : w.grownBy w' row) (hne : some b ≠ row) : Box w' b t cs := (hg.block b h.lt hne).trans h
theorem Box.keep {w w' : World} {b : Nat} {t : TypeId} {cs : Array Value} (h : Box w b t cs) (hg : w.grownBy w' none) : Box w' b t cs := h.grown hg (by simp)
theorem Box.alloc {w : World} {b : Nat} {t : TypeId} {cs : Array Value} (h : Box w b t cs) (o : Obj) : Box (w.alloc o) b t cs := h.keep (World.grownBy_alloc w o none)
theorem Box.set {w : World} {b : Nat} {t : TypeId} {cs : Array Value} (h : Box w b t cs) (i : Nat) (u : Value) : Box (w.setCell ⟨b, i, none⟩ u) b t (cs.setIfInBounds i u) := by
  unfold Box at h ⊢
  simp [World.setCell, Array.getElem?_modify, h]
theorem Box.far {w : World} {b : Nat} {t : TypeId} {cs : Array Value} (h : Box w b t cs) {p : Addr} (hp : b ≠ p.block) (u : Value) : Box (w.setCell p u) b t cs := (Below.heap_setCell w p u b hp).trans h
theorem grown_set (w : World) (p : Addr) (u : Value) : w.grownBy (w.setCell p u) (some p.block) := ⟨rfl, rfl, rfl, by simp [World.setCell], fun k _ hk => Below.heap_setCell w p u k (fun e => hk (by rw [e]))⟩
/-- Blocks from B on may turn, and new ones come. -/
theorem below_mono_grown {w w' : World} {B : Nat} {row : Option Nat} (hg : w.grownBy w' row) (hB : B ≤ w.heap.size) (hr : ∀ k, row = some k → B ≤ k) : Below B w w' := (Below.refl B w).grown hg hB hr

/-- A slice of cells, wherever it lies. -/
def Row (w : World) (v : Value) (xs : List Value) : Prop := ∃ ao cap, v = .slice ao xs.length cap ∧ (xs = [] ∨ ∃ b off, ao = some ⟨b, off, none⟩ ∧ b < w.heap.size ∧ ∀ j u, xs[j]? = some u → w.cell? ⟨b, off + j, none⟩ = some u)
theorem Row.grown {w w' : World} {v : Value} {xs : List Value} (h : Row w v xs) (hg : w.grownBy w' none) : Row w' v xs := by
  obtain ⟨ao, cap, rfl, h2⟩ := h
  refine ⟨ao, cap, rfl, ?_⟩
  rcases h2 with h2 | ⟨b, off, h3, h4, h5⟩
  · exact .inl h2
  · exact .inr ⟨b, off, h3, Nat.lt_of_lt_of_le h4 hg.size, fun j u hu => hg.cell (h5 j u hu) (by simp)⟩
theorem Row.drew {w : World} {v : Value} {xs : List Value} (h : Row w v xs) : Row w.drew v xs := h
theorem row_one (w : World) (u : Value) (t : TypeId) : Row (w.alloc (.cells #[u] t)) (.slice (some ⟨w.heap.size, 0, none⟩) 1 1) [u] := by
  refine ⟨_, _, rfl, .inr ⟨_, _, rfl, by simp, fun j x hx => ?_⟩⟩
  match j, hx with
  | 0, hx => simp at hx; subst hx; simp
theorem Ints.row {w : World} {v : Value} {zs : List Int} (h : Ints w v zs) : Row w v (zs.map (Value.int .i64)) := by
  obtain ⟨ao, cap, rfl, _, h2⟩ := h
  refine ⟨ao, cap, by simp, ?_⟩
  rcases h2 with rfl | ⟨b, off, h3, h4, h5⟩
  · exact .inl rfl
  · refine .inr ⟨b, off, h3, h4, fun j u hu => ?_⟩
    simp only [List.getElem?_map, Option.map_eq_some_iff] at hu
    obtain ⟨z, hz, rfl⟩ := hu
    have hj : j < zs.length := (List.getElem?_eq_some_iff.1 hz).1
    rw [h5 j hj, List.getD_eq_getElem?_getD, hz]
    rfl
theorem Ints.grown {w w' : World} {v : Value} {zs : List Int} (h : Ints w v zs) (hg : w.grownBy w' none) : Ints w' v zs := h.on (below_of_grown hg)
theorem Grid.grown {w w' : World} {v : Value} {ls : List (List Int)} (h : Grid w v ls) (hg : w.grownBy w' none) : Grid w' v ls := h.on (below_of_grown hg)
theorem one_ints (zs : List Int) : ∀ u ∈ zs.map (Value.int .i64), u.oneCell' = true := by
  intro u hu
  obtain ⟨z, _, rfl⟩ := List.mem_map.1 hu
  rfl

/-- The call's own list of numbers. -/
def OwnI (w : World) (lo : Nat) (v : Value) (zs : List Int) : Prop := w.ownsRow lo 3 1 v zs.length (zs.map (Value.int .i64))
theorem OwnI.nil (w : World) (lo : Nat) : OwnI w lo (.slice none 0 0) [] := World.ownsRow_nil w lo _ 1
theorem own_at {w : World} {lo : Nat} {e : TypeId} {v : Value} {n : Nat} {xs : List Value} (h : w.ownsRow lo e 1 v n xs) : ∃ ao cap, v = .slice ao n cap ∧ (xs = [] ∨ ∃ b, ao = some ⟨b, 0, none⟩ ∧ lo ≤ b ∧ b < w.heap.size ∧ ∀ j u, xs[j]? = some u → w.cell? ⟨b, 0 + j, none⟩ = some u) := by
  have h1 := h.1
  rcases h.2 with ⟨rfl, rfl⟩ | ⟨g, cap, cur, rfl, hg, hh, hnc, hcm, hcs, ht⟩
  · exact ⟨none, 0, rfl, .inl (List.eq_nil_of_length_eq_zero (by simpa using h1))⟩
  · refine ⟨_, cap, rfl, .inr ⟨g, rfl, hg, (Array.getElem?_eq_some_iff.1 hh).1, fun j u hu => ?_⟩⟩
    have := h.cells (g := g) rfl j u hu
    rw [addr_add] at this
    exact this
theorem own_row {w : World} {lo : Nat} {e : TypeId} {v : Value} {xs : List Value} (h : w.ownsRow lo e 1 v xs.length xs) : Row w v xs := by
  obtain ⟨ao, cap, rfl, h2⟩ := own_at h
  refine ⟨ao, cap, rfl, ?_⟩
  rcases h2 with h2 | ⟨b, h3, _, h4, h5⟩
  · exact .inl h2
  · exact .inr ⟨b, 0, h3, h4, h5⟩
theorem OwnI.ints {w : World} {lo : Nat} {v : Value} {zs : List Int} (h : OwnI w lo v zs) (hb : zs.length ≤ 17592186043904) : Ints w v zs := by
  obtain ⟨ao, cap, rfl, h2⟩ := own_at h
  refine ⟨ao, cap, rfl, hb, ?_⟩
  rcases h2 with h2 | ⟨b, h3, _, h4, h5⟩
  · exact .inl (List.map_eq_nil_iff.1 h2)
  · refine .inr ⟨b, 0, h3, h4, fun j hj => h5 j _ ?_⟩
    rw [List.getElem?_map, List.getElem?_eq_getElem hj, List.getD_eq_getElem?_getD, List.getElem?_eq_getElem hj]
    rfl
theorem own_grown {w w' : World} {lo : Nat} {e : TypeId} {v : Value} {n : Nat} {xs : List Value} (h : w.ownsRow lo e 1 v n xs) (hg : w.grownBy w' none) : w'.ownsRow lo e 1 v n xs := h.kept hg (by cases v.ownBlock <;> simp)
theorem own_more {w : World} {lo lo' : Nat} {e : TypeId} {v : Value} {n : Nat} {xs : List Value} (h : w.ownsRow lo e 1 v n xs) (hl : lo' ≤ lo) : w.ownsRow lo' e 1 v n xs := by
  refine ⟨h.1, ?_⟩
  rcases h.2 with h2 | ⟨g, cap, cur, hv, hg, r⟩
  · exact .inl h2
  · exact .inr ⟨g, cap, cur, hv, Nat.le_trans hl hg, r⟩
/-- An own row that was there lies in a block that is there. -/
theorem own_lt {w : World} {lo : Nat} {e : TypeId} {v : Value} {n : Nat} {xs : List Value} (h : w.ownsRow lo e 1 v n xs) : ∀ k, v.ownBlock = some k → lo ≤ k ∧ k < w.heap.size := h.lt

section
variable {e sl : TypeId} {z : Value} {bytes : Nat}
/-- append of a list behind the call's own one. -/
theorem run_append (E : El e sl z bytes) (ty : TypeId) {w : World} {lo : Nat} {v : Value} {n : Nat} {xs : List Value} (hown : w.ownsRow lo e 1 v n xs) {x : Value} {ys : List Value} (hx : Row w x ys) (h1 : ∀ u ∈ ys, u.oneCell' = true)
    (hb : (n + ys.length) * bytes ≤ 140737488355328) (hn : n + ys.length ≤ 140737488355328) (hlo : lo ≤ w.heap.size) :
    ∃ v' w', (Builtin.append_ #[sl, sl] ty #[v, x]).run Tryd.prog w = .ok v' w' ∧ w'.ownsRow lo e 1 v' (n + ys.length) (xs ++ ys) ∧ w.grownBy w' v.ownBlock ∧ (v'.ownBlock = v.ownBlock ∨ v'.ownBlock = some w.heap.size) := by
  obtain ⟨i, hi, hz, hs, hby⟩ := E.info
  obtain ⟨ao, c, rfl, hx⟩ := hx
  have key : ∀ ad : Addr, (∀ j u, ys[j]? = some u → w.cell? (ad.add j) = some u) → ∃ v' w', (Builtin.append_ #[sl, sl] ty #[v, .slice (some ad) ys.length c]).run Tryd.prog w = .ok v' w' ∧ w'.ownsRow lo e 1 v' (n + ys.length) (xs ++ ys) ∧ w.grownBy w' v.ownBlock ∧ (v'.ownBlock = v.ownBlock ∨ v'.ownBlock = some w.heap.size) := by
    intro ad had
    obtain ⟨v', w', hr, h2, h3, _, h5⟩ := run_append_own_at (P := Tryd.prog) w lo sl ty e i z 1 bytes E.und hi hz hs hby E.one (by decide) v n xs hown ad ys.length c ys (by simp) had h1 (by unfold maxLen; omega) hb hlo
    exact ⟨v', w', hr, h2, h3, h5⟩
  rcases hx with rfl | ⟨b, off, rfl, hlt, hc⟩
  · cases ao with
    | some ad => exact key ad (by intro j u hu; simp at hu)
    | none =>
      refine ⟨v, w, ?_, by simpa using hown, Rg.grown_refl _ _, .inl rfl⟩
      rcases hown.2 with ⟨rfl, rfl⟩ | ⟨g, cap, cur, rfl, _, _, hnc, _⟩
      · simp [Builtin.append_, run_underlying E.und, sizeOf, typeInfo, hi, Builtin.lenOf, Builtin.firstCells]
      · simp [Builtin.append_, run_underlying E.und, sizeOf, typeInfo, hi, Builtin.lenOf, Builtin.firstCells, hnc, storeCells]
  · exact key ⟨b, off, none⟩ fun j u hu => by rw [addr_add]; exact hc j u hu

/-- append behind a slice without room: nothing that was there turns. -/
theorem run_append_new (E : El e sl z bytes) (ty : TypeId) {w : World} {lo : Nat} {ao : Option Addr} (hown : w.ownsRow lo e 1 (.slice ao 0 0) 0 []) {x : Value} {ys : List Value} (hx : Row w x ys) (h1 : ∀ u ∈ ys, u.oneCell' = true)
    (hb : ys.length * bytes ≤ 140737488355328) (hn : ys.length ≤ 140737488355328) (hlo : lo ≤ w.heap.size) :
    ∃ v' w', (Builtin.append_ #[sl, sl] ty #[.slice ao 0 0, x]).run Tryd.prog w = .ok v' w' ∧ w'.ownsRow lo e 1 v' ys.length ys ∧ w.grownBy w' none ∧ ((ys = [] ∧ v' = .slice ao 0 0) ∨ (ys ≠ [] ∧ v'.ownBlock = some w.heap.size)) := by
  obtain ⟨i, hi, hz, hs, hby⟩ := E.info
  by_cases hy : ys = []
  · subst hy
    obtain ⟨xo, c, rfl, _⟩ := hx
    refine ⟨.slice ao 0 0, w, ?_, hown, Rg.grown_refl _ _, .inl ⟨rfl, rfl⟩⟩
    cases ao with
    | none =>
      cases xo <;> simp [Builtin.append_, run_underlying E.und, sizeOf, typeInfo, hi, Builtin.lenOf, Builtin.firstCells, loadCells, loadCellsFrom]
    | some ad =>
      cases xo <;> simp [Builtin.append_, run_underlying E.und, sizeOf, typeInfo, hi, Builtin.lenOf, Builtin.firstCells, loadCells, loadCellsFrom, storeCells]
  · obtain ⟨xo, c, rfl, hx⟩ := hx
    obtain ⟨b, off, rfl, hlt, hc⟩ := hx.resolve_left hy
    have hpos : 0 < ys.length := List.length_pos_iff.2 hy
    have had : ∀ j u, ys[j]? = some u → w.cell? ((⟨b, off, none⟩ : Addr).add j) = some u := fun j u hu => by rw [addr_add]; exact hc j u hu
    cases ao with
    | none =>
      obtain ⟨v', w', hr, h2, h3, _, h5⟩ := run_append_own_at (P := Tryd.prog) w lo sl ty e i z 1 bytes E.und hi hz hs hby E.one (by decide) (.slice none 0 0) 0 [] (World.ownsRow_nil _ _ _ _) ⟨b, off, none⟩ ys.length c ys (by simp) had h1 (by unfold maxLen; omega) (by simpa using hb) hlo
      refine ⟨v', w', hr, by simpa using h2, h3, .inr ⟨hy, ?_⟩⟩
      rcases h5 with h5 | h5
      · obtain ⟨g, cap, rfl, _⟩ := (by simpa using h2 : w'.ownsRow lo e 1 v' ys.length ys).form hpos
        simp [Value.ownBlock] at h5
      · exact h5
    | some ad =>
      obtain ⟨v', w', hr, h2, h3⟩ := run_append_arg_grows (P := Tryd.prog) w sl ty e i z 1 bytes E.und hi hz hs hby E.one (by decide) ad 0 0 [] (by simp) (by intro j u hu; simp at hu) ⟨b, off, none⟩ ys.length c ys (by simp) had (by omega) (by unfold maxLen; omega) (by simpa using hb)
      obtain ⟨g, cap, hv, hg1, hg2⟩ := (by simpa using h2 : w'.ownsRow w.heap.size e 1 v' ys.length ys).form hpos
      refine ⟨v', w', hr, own_more (by simpa using h2) hlo, h3, .inr ⟨hy, ?_⟩⟩
      have hr2 := hr
      rw [run_append_grow (P := Tryd.prog) w sl ty e i z E.und hi hz ad 0 0 [] (by simp) (by intro j u hu; simp at hu) ⟨b, off, none⟩ ys.length c ys (by simp [hs]) had (by omega) (by omega) (growslice_fits (by omega) (by rw [hby]; simpa using hb))] at hr2
      injection hr2 with e1 _
      rw [← e1]
      rfl

/-- make of a slice of zeros: the world is spelled out. -/
def Made (w : World) (e : TypeId) (z : Value) (n : Nat) : World := w.alloc (.cells (madeCells #[z] n) e)
theorem run_make1 (E : El e sl z bytes) (n : Nat) (hb : bytes * n ≤ 281474976710656) (hn : n ≤ 9223372036854775807) (w : World) :
    (Instr.makeSlice sl (.int .i64 (n : Int)) (.int .i64 (n : Int))).run Tryd.prog w = .ok (.slice (some ⟨w.heap.size, 0, none⟩) n n) (Made w e z n) := by
  obtain ⟨i, hi, hz, hs, hby⟩ := E.info
  have hb' : (i.bytes : Int) * (n : Int) ≤ 281474976710656 := by
    have h : ((i.bytes * n : Nat) : Int) ≤ 281474976710656 := by rw [hby]; omega
    rwa [Int.natCast_mul] at h
  have hr := run_make (P := Tryd.prog) w sl e i z E.und hi hz .i64 .i64 n n (by omega) (Int.le_refl _) hb' (by omega)
  simp only [Int.toNat_natCast] at hr
  rw [hr, E.cell, hs, Nat.mul_one]
  rfl
/-- make, in the walk. -/
theorem wpl_make (E : El e sl z bytes) {w : World} {ops : Array Oper} {rest : List Oper} {o : Oper} {a : Act} {Q : Exit → Act → World → Prop} (hgd : o.guard = none) (s x : Operand)
    (ho : o.op = .makeSlice sl s x) (n : Nat) (hs : a.eval s = .int .i64 n) (hx : a.eval x = .int .i64 n) (hb : bytes * n ≤ 281474976710656) (hn : n ≤ 9223372036854775807)
    (h : ∀ w', w'.ownsRow w.heap.size e 1 (.slice (some ⟨w.heap.size, 0, none⟩) n n) n (List.replicate n z) → w.grownBy w' none → w'.heap.size = w.heap.size + 1 → wpList Tryd.prog ops Q rest (a.put o.dst (.slice (some ⟨w.heap.size, 0, none⟩) n n)) w') : wpList Tryd.prog ops Q (o :: rest) a w := by
  have hrun := run_make1 E n hb hn w
  refine wpList_plain hgd fun _ hK => ?_
  unfold Oper.wp execOp
  simp only [ho, hs, hx, Sem.run_bind, Sem.run_pure, hrun, Result.andThen_ok]
  refine hK _ _ (h _ ?_ (World.grownBy_alloc _ _ _) (by unfold Made; simp))
  have h2 := World.ownsRow_lit (e := e) (size := 1) (base := w.heap.size) w (madeCells #[z] n) n (Nat.le_refl _) (by unfold maxLen; exact hn) (by rw [size_madeCells, Nat.mul_one])
  rw [toList_madeCells_one] at h2
  exact h2
theorem made_own {w : World} {lo : Nat} (hlo : lo ≤ w.heap.size) (n : Nat) (hn : n ≤ 9223372036854775807) : (Made w e z n).ownsRow lo e 1 (.slice (some ⟨w.heap.size, 0, none⟩) n n) n (List.replicate n z) := by
  have h := World.ownsRow_lit (e := e) (size := 1) w (madeCells #[z] n) n hlo (by unfold maxLen; exact hn) (by rw [size_madeCells, Nat.mul_one])
  rw [toList_madeCells_one] at h
  exact h
theorem made_grown (w : World) (n : Nat) : w.grownBy (Made w e z n) none := World.grownBy_alloc _ _ _
theorem made_size (w : World) (n : Nat) : (Made w e z n).heap.size = w.heap.size + 1 := by unfold Made; simp

/-- append as an operation. -/
theorem op_append {o : Oper} {A : Act} {w w' : World} {K : Act → World → Prop} {Q : Exit → Act → World → Prop} {s x : Operand} {v xv v' : Value}
    (ho : o.op = .call { callee := .builtin .append, args := #[s, x], argTypes := #[sl, sl] }) (hs : A.eval s = v) (hx : A.eval x = xv)
    (hrun : (Builtin.append_ #[sl, sl] o.type #[v, xv]).run Tryd.prog w = .ok v' w') (hK : K (A.put o.dst v') w') : o.wp Tryd.prog A w K Q := by
  unfold Oper.wp execOp
  simp only [ho, resolve, invoke, builtin, Sem.run_bind, Sem.run_pure, Result.andThen_ok, List.map_toArray, List.map_cons, List.map_nil, hs, hx, hrun]
  exact hK

/-- .. in a plain region: behind the call's own list. -/
theorem wpl_append (E : El e sl z bytes) {w : World} {ops : Array Oper} {rest : List Oper} {o : Oper} {a : Act} {Q : Exit → Act → World → Prop} (hgd : o.guard = none) (s x : Operand)
    (ho : o.op = .call { callee := .builtin .append, args := #[s, x], argTypes := #[sl, sl] }) {lo : Nat} {v : Value} {n : Nat} {xs : List Value} (hs : a.eval s = v) (hown : w.ownsRow lo e 1 v n xs)
    {xv : Value} {ys : List Value} (hx : a.eval x = xv) (hr : Row w xv ys) (h1 : ∀ u ∈ ys, u.oneCell' = true) (hb : (n + ys.length) * bytes ≤ 140737488355328) (hn : n + ys.length ≤ 140737488355328) (hlo : lo ≤ w.heap.size)
    (h : ∀ v' w', w'.ownsRow lo e 1 v' (n + ys.length) (xs ++ ys) → w.grownBy w' v.ownBlock → (v'.ownBlock = v.ownBlock ∨ v'.ownBlock = some w.heap.size) → wpList Tryd.prog ops Q rest (a.put o.dst v') w') : wpList Tryd.prog ops Q (o :: rest) a w := by
  obtain ⟨v', w', hrun, h2, h3, h4⟩ := run_append E o.type hown hr h1 hb hn hlo
  exact wpList_plain hgd fun _ hK => op_append ho hs hx hrun (hK _ _ (h v' w' h2 h3 h4))

/-- .. behind a slice without room. -/
theorem wpl_append_new (E : El e sl z bytes) {w : World} {ops : Array Oper} {rest : List Oper} {o : Oper} {a : Act} {Q : Exit → Act → World → Prop} (hgd : o.guard = none) (s x : Operand)
    (ho : o.op = .call { callee := .builtin .append, args := #[s, x], argTypes := #[sl, sl] }) {lo : Nat} {ao : Option Addr} (hs : a.eval s = .slice ao 0 0) (hown : w.ownsRow lo e 1 (.slice ao 0 0) 0 [])
    {xv : Value} {ys : List Value} (hx : a.eval x = xv) (hr : Row w xv ys) (h1 : ∀ u ∈ ys, u.oneCell' = true) (hb : ys.length * bytes ≤ 140737488355328) (hn : ys.length ≤ 140737488355328) (hlo : lo ≤ w.heap.size)
    (h : ∀ v' w', w'.ownsRow lo e 1 v' ys.length ys → w.grownBy w' none → ((ys = [] ∧ v' = .slice ao 0 0) ∨ (ys ≠ [] ∧ v'.ownBlock = some w.heap.size)) → wpList Tryd.prog ops Q rest (a.put o.dst v') w') : wpList Tryd.prog ops Q (o :: rest) a w := by
  obtain ⟨v', w', hrun, h2, h3, h4⟩ := run_append_new E o.type hown hr h1 hb hn hlo
  exact wpList_plain hgd fun _ hK => op_append ho hs hx hrun (hK _ _ (h v' w' h2 h3 h4))
end
end W
end Go.Proofs.YtghdjkpndhcplaaDoor
end
section
namespace Go.Proofs.YtghdjkpndhcplaaDoor
open Go.RowKit
namespace W
/-- The block of a slice that has room for anything. -/
def hold : Value → Option Nat
  | .slice (some a) _ (_ + 1) => some a.block
  | _ => none
theorem hold_own {v : Value} {g : Nat} (h : hold v = some g) : v.ownBlock = some g := by
  unfold hold at h
  split at h
  · exact h
  · cases h
/-- No two of these share a block. -/
def Apart (L : List Value) : Prop := ∀ (i j : Nat) (u v : Value), L[i]? = some u → L[j]? = some v → i ≠ j → hold u = none ∨ hold u ≠ hold v
theorem Apart.nil : Apart [] := fun i _ _ _ h => by simp at h
theorem Apart.nils (n : Nat) : Apart (List.replicate n (.slice none 0 0)) := fun i _ u _ h _ _ => by
  left
  rw [List.getElem?_replicate] at h
  split at h
  · injection h with h; subst h; rfl
  · cases h
theorem Apart.set {L : List Value} (h : Apart L) (k : Nat) (x : Value) (hx : ∀ (i : Nat) (u : Value), L[i]? = some u → ∀ g, hold x = some g → hold u ≠ some g) : Apart (L.set k x) := by
  intro i j u v hi hj hne
  rw [List.getElem?_set] at hi hj
  by_cases hki : k = i
  · by_cases hkj : k = j
    · omega
    · rw [if_neg hkj] at hj
      rw [if_pos hki] at hi
      split at hi
      · injection hi with hi
        subst hi
        cases hb : hold x with
        | none => exact .inl rfl
        | some g => exact .inr fun e => hx j v hj g hb e.symm
      · cases hi
  · rw [if_neg hki] at hi
    by_cases hkj : k = j
    · rw [if_pos hkj] at hj
      split at hj
      · injection hj with hj
        subst hj
        cases hb : hold u with
        | none => exact .inl rfl
        | some g => exact .inr fun e => hx i u hi g e.symm hb
      · cases hj
    · rw [if_neg hkj] at hj
      exact h i j u v hi hj hne
theorem Apart.snoc {L : List Value} (h : Apart L) (x : Value) (hx : ∀ (i : Nat) (u : Value), L[i]? = some u → ∀ g, hold x = some g → hold u ≠ some g) : Apart (L ++ [x]) := by
  have one : ∀ (i : Nat) (u : Value), (L ++ [x])[i]? = some u → L[i]? = some u ∨ (i = L.length ∧ u = x) := by
    intro i u hi
    rw [List.getElem?_append] at hi
    split at hi
    · exact .inl hi
    · right
      have : i - L.length = 0 := by
        rcases Nat.eq_zero_or_pos (i - L.length) with h0 | h0
        · exact h0
        · rw [List.getElem?_eq_none (by simp; omega)] at hi; cases hi
      rw [this] at hi
      injection hi with hi
      exact ⟨by omega, hi.symm⟩
  intro i j u v hi hj hne
  rcases one i u hi with hi2 | ⟨hi, rfl⟩
  · rcases one j v hj with hj2 | ⟨hj, rfl⟩
    · exact h i j u v hi2 hj2 hne
    · cases hb : hold u with
      | none => exact .inl rfl
      | some g => exact .inr fun e => hx i u hi2 g e.symm hb
  · rcases one j v hj with hj2 | ⟨hj, rfl⟩
    · cases hb : hold u with
      | none => exact .inl rfl
      | some g => exact .inr fun e => hx j v hj2 g hb e.symm
    · omega
theorem Apart.cons {L : List Value} (h : Apart L) (x : Value) (hx : ∀ (i : Nat) (u : Value), L[i]? = some u → ∀ g, hold x = some g → hold u ≠ some g) : Apart (x :: L) := by
  intro i j u v hi hj hne
  match i, j, hi, hj with
  | 0, 0, _, _ => exact absurd rfl hne
  | 0, j + 1, hi, hj =>
    simp at hi
    subst hi
    cases hb : hold x with
    | none => exact .inl rfl
    | some g => exact .inr fun e => hx j v (by simpa using hj) g hb e.symm
  | i + 1, 0, hi, hj =>
    simp at hj
    subst hj
    cases hb : hold u with
    | none => exact .inl rfl
    | some g => exact .inr fun e => hx i u (by simpa using hi) g e.symm hb
  | i + 1, j + 1, hi, hj => exact h i j u v (by simpa using hi) (by simpa using hj) (by omega)
/-- Rows of unlike elements lie in unlike blocks. -/
theorem own_ne {w : World} {lo lo' : Nat} {e e' : TypeId} {v v' : Value} {n n' : Nat} {xs xs' : List Value} (h : w.ownsRow lo e 1 v n xs) (h' : w.ownsRow lo' e' 1 v' n' xs') (hne : e ≠ e') : v.ownBlock = none ∨ v.ownBlock ≠ v'.ownBlock := by
  rcases h.2 with ⟨rfl, _⟩ | ⟨g, cap, cur, rfl, _, hg, _⟩
  · exact .inl rfl
  · rcases h'.2 with ⟨rfl, _⟩ | ⟨g', cap', cur', rfl, _, hg', _⟩
    · exact .inr (by simp [Value.ownBlock])
    · refine .inr fun e0 => ?_
      have : g = g' := by simpa [Value.ownBlock] using e0
      subst this
      rw [hg] at hg'
      injection hg' with hg'
      injection hg' with _ ht
      exact hne ht
theorem own_box {w : World} {lo : Nat} {e t : TypeId} {v : Value} {n : Nat} {xs : List Value} {b : Nat} {cs : Array Value} (h : w.ownsRow lo e 1 v n xs) (hb : Box w b t cs) (hne : e ≠ t) : v.ownBlock ≠ some b := by
  rcases h.2 with ⟨rfl, _⟩ | ⟨g, cap, cur, rfl, _, hg, _⟩
  · simp [Value.ownBlock]
  · intro e0
    have : g = b := by simpa [Value.ownBlock] using e0
    subst this
    unfold Box at hb
    rw [hg] at hb
    injection hb with hb
    injection hb with _ ht
    exact hne ht
/-- An own row stays while another block turns. -/
theorem own_kept {w w' : World} {lo : Nat} {e : TypeId} {v : Value} {n : Nat} {xs : List Value} {row : Option Nat} (h : w.ownsRow lo e 1 v n xs) (hg : w.grownBy w' row) (hne : v.ownBlock = none ∨ v.ownBlock ≠ row) : w'.ownsRow lo e 1 v n xs := h.kept hg hne
/-- Rows of numbers, each the call's own. -/
def OwnRows (w : World) (lo : Nat) (L : List Value) (ls : List (List Int)) : Prop := ∀ (j : Nat) (l : List Int), ls[j]? = some l → ∃ x, L[j]? = some x ∧ OwnI w lo x l
theorem OwnRows.grown {w w' : World} {lo : Nat} {L : List Value} {ls : List (List Int)} (h : OwnRows w lo L ls) (hg : w.grownBy w' none) : OwnRows w' lo L ls := fun j l hl => by
  obtain ⟨x, h1, h2⟩ := h j l hl
  exact ⟨x, h1, own_grown h2 hg⟩
theorem OwnRows.kept {w w' : World} {lo : Nat} {L : List Value} {ls : List (List Int)} {row : Option Nat} (h : OwnRows w lo L ls) (hg : w.grownBy w' row) (hne : ∀ (j : Nat) (u : Value), L[j]? = some u → u.ownBlock = none ∨ u.ownBlock ≠ row) : OwnRows w' lo L ls := fun j l hl => by
  obtain ⟨x, h1, h2⟩ := h j l hl
  exact ⟨x, h1, own_kept h2 hg (hne j x h1)⟩
/-- A game that is the call's own. -/
structure OwnG (w : World) (lo : Nat) (a b c : Value) (L : List Value) (g : P.G) : Prop where
  owner : OwnI w lo a g.owner
  prio : OwnI w lo b g.prio
  head : w.ownsRow lo 22 1 c g.moves.length L
  rows : OwnRows w lo L g.moves
  apart : Apart (a :: b :: L)
theorem OwnG.grown {w w' : World} {lo : Nat} {a b c : Value} {L : List Value} {g : P.G} (h : OwnG w lo a b c L g) (hg : w.grownBy w' none) : OwnG w' lo a b c L g :=
  ⟨own_grown h.owner hg, own_grown h.prio hg, own_grown h.head hg, h.rows.grown hg, h.apart⟩
/-- No list is longer than what may come in. -/
def Fits (g : P.G) : Prop := g.owner.length ≤ 17592186043904 ∧ g.prio.length ≤ 17592186043904 ∧ g.moves.length ≤ 5864062014634 ∧ ∀ (j : Nat) (l : List Int), g.moves[j]? = some l → l.length ≤ 17592186043904
theorem GameV.fits {w : World} {v : Value} {g : P.G} (h : GameV w v g) : Fits g := by
  obtain ⟨a, b, c, rfl, ⟨_, _, _, h1, _⟩, ⟨_, _, _, h2, _⟩, ⟨_, _, _, h3, h4⟩⟩ := h
  refine ⟨h1, h2, h3, fun j l hl => ?_⟩
  have hj : j < g.moves.length := (List.getElem?_eq_some_iff.1 hl).1
  rcases h4 with h4 | ⟨_, _, _, _, h5⟩
  · rw [h4] at hj; exact absurd hj (Nat.not_lt_zero j)
  · obtain ⟨x, _, ⟨_, _, _, hz, _⟩⟩ := h5 j hj
    rw [List.getD_eq_getElem?_getD, hl] at hz
    exact hz
theorem OwnG.game {w : World} {lo : Nat} {a b c : Value} {L : List Value} {g : P.G} (h : OwnG w lo a b c L g) (hf : Fits g) : GameV w (.agg #[a, b, c]) g := by
  refine ⟨a, b, c, rfl, h.owner.ints hf.1, h.prio.ints hf.2.1, ?_⟩
  obtain ⟨ao, cap, rfl, h2⟩ := own_at h.head
  refine ⟨ao, cap, rfl, hf.2.2.1, ?_⟩
  have hl := h.head.1
  by_cases h0 : g.moves = []
  · exact .inl h0
  · rcases h2 with h2 | ⟨b', h3, _, h4, h5⟩
    · rw [h2] at hl
      have : 0 < g.moves.length := List.length_pos_iff.2 h0
      simp only [List.length_nil] at hl
      omega
    · refine .inr ⟨b', 0, h3, h4, fun j hj => ?_⟩
      obtain ⟨x, hx, ho⟩ := h.rows j _ (List.getElem?_eq_getElem hj)
      refine ⟨x, h5 j x hx, ?_⟩
      rw [List.getD_eq_getElem?_getD, List.getElem?_eq_getElem hj]
      exact ho.ints (hf.2.2.2 j _ (List.getElem?_eq_getElem hj))

theorem own_past {w0 w w' : World} {e : TypeId} {v : Value} {n : Nat} {xs : List Value} {row : Option Nat} (h : w.ownsRow w0.heap.size e 1 v n xs) (hg : w.grownBy w' row) (hr : ∀ g, row = some g → g < w0.heap.size) : w'.ownsRow w0.heap.size e 1 v n xs := own_kept h hg (by
  cases hv : v.ownBlock with
  | none => exact .inl rfl
  | some q => exact .inr fun e => by have := own_lt h q hv; have := hr q e.symm; omega)
theorem own_set {w : World} {lo : Nat} {e t : TypeId} {v : Value} {n : Nat} {xs : List Value} {b : Nat} {cs : Array Value} (h : w.ownsRow lo e 1 v n xs) (hb : Box w b t cs) (hne : e ≠ t) (j : Nat) (u : Value) : (w.setCell ⟨b, j, none⟩ u).ownsRow lo e 1 v n xs := own_kept h (grown_set w ⟨b, j, none⟩ u) (.inr (own_box h hb hne))
theorem OwnG.set {w : World} {lo : Nat} {a b c : Value} {L : List Value} {g : P.G} {q : Nat} {t : TypeId} {cs : Array Value} (h : OwnG w lo a b c L g) (hb : Box w q t cs) (h1 : 3 ≠ t) (h2 : 22 ≠ t) (j : Nat) (u : Value) : OwnG (w.setCell ⟨q, j, none⟩ u) lo a b c L g :=
  ⟨own_set h.owner hb h1 j u, own_set h.prio hb h1 j u, own_set h.head hb h2 j u, fun i l hl => by obtain ⟨x, hx, ho⟩ := h.rows i l hl; exact ⟨x, hx, own_set ho hb h1 j u⟩, h.apart⟩
/-- One more row behind the others. -/
theorem OwnG.push {w w' : World} {lo : Nat} {a b c c' x : Value} {L : List Value} {ow pr : List Int} {ms : List (List Int)} {l : List Int} {row : Option Nat} (h : OwnG w lo a b c L ⟨ow, pr, ms⟩) (hg : w.grownBy w' row) (hrow : c.ownBlock = row)
    (hlo : lo ≤ w.heap.size) (hx : OwnI w' w.heap.size x l) (hc : w'.ownsRow lo 22 1 c' (ms.length + 1) (L ++ [x])) : OwnG w' lo a b c' (L ++ [x]) ⟨ow, pr, ms ++ [l]⟩ := by
  subst hrow
  have ne : ∀ {v : Value} {zs : List Int}, OwnI w lo v zs → OwnI w' lo v zs := fun ho => own_kept ho hg (own_ne ho h.head (by decide))
  have hlen : L.length = ms.length := by have h1 : L.length = ms.length * 1 := h.head.1; omega
  have old : ∀ (i : Nat) (u : Value), (a :: b :: L)[i]? = some u → ∃ q zs, OwnI w q u zs := by
    intro i u hu
    match i, hu with
    | 0, hu => simp at hu; subst hu; exact ⟨_, _, h.owner⟩
    | 1, hu => simp at hu; subst hu; exact ⟨_, _, h.prio⟩
    | i + 2, hu =>
      simp at hu
      have hi : i < ms.length := by rw [← hlen]; exact (List.getElem?_eq_some_iff.1 hu).1
      obtain ⟨y, hy, ho⟩ := h.rows i _ (List.getElem?_eq_getElem hi)
      rw [hu] at hy
      injection hy with hy
      subst hy
      exact ⟨_, _, ho⟩
  refine ⟨ne h.owner, ne h.prio, by simpa using hc, fun i l' hl => ?_, ?_⟩
  · show ∃ y, (L ++ [x])[i]? = some y ∧ _
    have hl : (ms ++ [l])[i]? = some l' := hl
    rw [List.getElem?_append] at hl
    split at hl
    · rename_i hi
      obtain ⟨y, hy, ho⟩ := h.rows i l' hl
      exact ⟨y, by rw [List.getElem?_append, if_pos (by omega)]; exact hy, ne ho⟩
    · rename_i hi
      have : i - ms.length = 0 := by
        rcases Nat.eq_zero_or_pos (i - ms.length) with h0 | h0
        · exact h0
        · rw [List.getElem?_eq_none (by simp; omega)] at hl; cases hl
      rw [this] at hl
      injection hl with hl
      subst hl
      exact ⟨x, by rw [List.getElem?_append, if_neg (by omega), hlen, this]; rfl, own_more hx hlo⟩
  · have := h.apart.snoc x fun i u hu q hq e => by
      obtain ⟨p, zs, ho⟩ := old i u hu
      have h1 := own_lt ho q (hold_own e)
      have h2 := own_lt hx q (hold_own hq)
      omega
    simpa using this
theorem OwnG.none_ (w : World) (lo : Nat) : OwnG w lo (.slice none 0 0) (.slice none 0 0) (.slice none 0 0) [] P.G.none :=
  ⟨OwnI.nil _ _, OwnI.nil _ _, World.ownsRow_nil _ _ _ _, fun j l h => by simp [P.G.none] at h, Apart.nils 2⟩
theorem OwnG.low {w : World} {lo lo' : Nat} {a b c : Value} {L : List Value} {g : P.G} (h : OwnG w lo a b c L g) (hl : lo' ≤ lo) : OwnG w lo' a b c L g :=
  ⟨own_more h.owner hl, own_more h.prio hl, own_more h.head hl, fun j l hj => by obtain ⟨x, hx, ho⟩ := h.rows j l hj; exact ⟨x, hx, own_more ho hl⟩, h.apart⟩
theorem OwnG.forms {w : World} {lo : Nat} {a b c : Value} {L : List Value} {g : P.G} (h : OwnG w lo a b c L g) : ∃ a1 k1 b1 k2 c1 k3, a = .slice a1 g.owner.length k1 ∧ b = .slice b1 g.prio.length k2 ∧ c = .slice c1 g.moves.length k3 := by
  obtain ⟨a1, k1, h1, -⟩ := own_at h.owner
  obtain ⟨b1, k2, h2, -⟩ := own_at h.prio
  obtain ⟨c1, k3, h3, -⟩ := own_at h.head
  exact ⟨a1, k1, b1, k2, c1, k3, h1, h2, h3⟩
/-- A row that holds something, and another one apart from it, lie in unlike blocks. -/
theorem own_apart {w : World} {lo lo' : Nat} {e : TypeId} {A B : Value} {n m : Nat} {xs ys : List Value} (hA : w.ownsRow lo e 1 A n xs) (hB : w.ownsRow lo' e 1 B m ys) (hx : 0 < n) (h : hold A = none ∨ hold A ≠ hold B) : B.ownBlock = none ∨ B.ownBlock ≠ A.ownBlock := by
  rcases hA.2 with ⟨_, h0⟩ | ⟨g, cap, cur, rfl, _, hg, hnc, _, hcs, _⟩
  · omega
  · obtain ⟨c, rfl⟩ : ∃ c, cap = c + 1 := ⟨cap - 1, by omega⟩
    rcases hB.2 with ⟨rfl, _⟩ | ⟨g', cap', cur', rfl, _, hg', _, _, hcs', _⟩
    · exact .inl rfl
    · refine .inr fun e0 => ?_
      have : g' = g := by simpa [Value.ownBlock] using e0
      subst this
      rw [hg] at hg'
      injection hg' with hg'
      injection hg' with hcur _
      subst hcur
      obtain ⟨c', rfl⟩ : ∃ c', cap' = c' + 1 := ⟨cap' - 1, by omega⟩
      rcases h with h | h
      · simp [hold] at h
      · exact h (by simp [hold])
/-- A row that holds something lies in a block, from its beginning on. -/
theorem own_form {w : World} {lo : Nat} {e : TypeId} {A : Value} {n : Nat} {xs : List Value} (h : w.ownsRow lo e 1 A n xs) (hn : 0 < n) : ∃ g k, A = .slice (some ⟨g, 0, none⟩) n k ∧ lo ≤ g ∧ g < w.heap.size ∧ (∀ j u, xs[j]? = some u → w.cell? ⟨g, j, none⟩ = some u) ∧ ∀ j, w.frozen? ⟨g, j, none⟩ = false := by
  obtain ⟨g, k, hv, h1, h2⟩ := h.form hn
  subst hv
  refine ⟨g, k, rfl, h1, h2, fun j u hu => ?_, fun j => h.frozenAt j⟩
  have hl := h.1
  have hj := (List.getElem?_eq_some_iff.1 hu).1
  rw [h.cellAt j (by omega)]
  exact hu
theorem map_set (l : List Int) (j : Nat) (z : Int) : (l.map (Value.int .i64)).set j (.int .i64 z) = (l.set j z).map (Value.int .i64) := by
  rw [List.map_set]
/-- A number is stored into the owners. -/
theorem OwnG.setOwner {w : World} {lo q k n : Nat} {b c : Value} {L : List Value} {g : P.G} (h : OwnG w lo (.slice (some ⟨q, 0, none⟩) n k) b c L g) (hn : 0 < n) (j : Nat) (z : Int) : OwnG (w.setCell ⟨q, j, none⟩ (.int .i64 z)) lo (.slice (some ⟨q, 0, none⟩) n k) b c L { g with owner := g.owner.set j z } := by
  have hlen : n = g.owner.length := by
    obtain ⟨a1, k1, e, -⟩ := own_at h.owner
    injection e
  subst hlen
  have hs := h.owner.stored j (.int .i64 z)
  have ne : ∀ {v : Value} {zs : List Int}, OwnI w lo v zs → (hold (.slice (some ⟨q, 0, none⟩) g.owner.length k) = none ∨ hold (.slice (some ⟨q, 0, none⟩) g.owner.length k) ≠ hold v) → OwnI (w.setCell ⟨q, j, none⟩ (.int .i64 z)) lo v zs := fun ho ha => own_kept ho hs.2 (own_apart h.owner ho hn ha)
  refine ⟨?_, ne h.prio (h.apart 0 1 _ _ rfl rfl (by decide)), own_kept h.head hs.2 (own_ne h.head h.owner (by decide)), fun i l hl => ?_, h.apart⟩
  · unfold OwnI
    have := hs.1
    rw [map_set] at this
    simpa using this
  · obtain ⟨x, hx, ho⟩ := h.rows i l hl
    exact ⟨x, hx, ne ho (h.apart 0 (i + 2) _ _ rfl (by simpa using hx) (by omega))⟩
/-- .. into the priorities. -/
theorem OwnG.setPrio {w : World} {lo q k n : Nat} {a c : Value} {L : List Value} {g : P.G} (h : OwnG w lo a (.slice (some ⟨q, 0, none⟩) n k) c L g) (hn : 0 < n) (j : Nat) (z : Int) : OwnG (w.setCell ⟨q, j, none⟩ (.int .i64 z)) lo a (.slice (some ⟨q, 0, none⟩) n k) c L { g with prio := g.prio.set j z } := by
  have hlen : n = g.prio.length := by
    obtain ⟨a1, k1, e, -⟩ := own_at h.prio
    injection e
  subst hlen
  have hs := h.prio.stored j (.int .i64 z)
  have ne : ∀ {v : Value} {zs : List Int}, OwnI w lo v zs → (hold (.slice (some ⟨q, 0, none⟩) g.prio.length k) = none ∨ hold (.slice (some ⟨q, 0, none⟩) g.prio.length k) ≠ hold v) → OwnI (w.setCell ⟨q, j, none⟩ (.int .i64 z)) lo v zs := fun ho ha => own_kept ho hs.2 (own_apart h.prio ho hn ha)
  refine ⟨ne h.owner (h.apart 1 0 _ _ rfl rfl (by decide)), ?_, own_kept h.head hs.2 (own_ne h.head h.prio (by decide)), fun i l hl => ?_, h.apart⟩
  · unfold OwnI
    have := hs.1
    rw [map_set] at this
    simpa using this
  · obtain ⟨x, hx, ho⟩ := h.rows i l hl
    exact ⟨x, hx, ne ho (h.apart 1 (i + 2) _ _ rfl (by simpa using hx) (by omega))⟩
end W
end Go.Proofs.YtghdjkpndhcplaaDoor
end
section
namespace Go.Proofs.YtghdjkpndhcplaaDoor
open Go.RowKit
namespace W
theorem Ints.open_ {w : World} {v : Value} {zs : List Int} {n : Nat} (h : Ints w v zs) (hn : zs.length = n) (h0 : 0 < n) :
    ∃ b off cap, v = .slice (some ⟨b, off, none⟩) n cap ∧ ∀ w', Below w.heap.size w w' → ∀ j, j < n → w'.cell? ⟨b, off + j, none⟩ = some (.int .i64 (zs.getD j 0)) := by
  obtain ⟨ao, cap, rfl, h1, h2⟩ := h
  rw [hn] at h2 ⊢
  rcases h2 with h2 | ⟨b, off, rfl, h4, h5⟩
  · rw [h2] at hn; simp at hn; omega
  · exact ⟨b, off, cap, rfl, fun w' hb j hj => by rw [hb.cell (p := ⟨b, off + j, none⟩) h4]; exact h5 j hj⟩
theorem Grid.open_ {w : World} {v : Value} {ls : List (List Int)} {n : Nat} (h : Grid w v ls) (hn : ls.length = n) (h0 : 0 < n) :
    ∃ b off cap, v = .slice (some ⟨b, off, none⟩) n cap ∧ ∀ w', Below w.heap.size w w' → ∀ j, j < n → ∃ x, w'.cell? ⟨b, off + j, none⟩ = some x ∧ Ints w' x (ls.getD j []) := by
  obtain ⟨ao, cap, rfl, h1, h2⟩ := h
  rw [hn] at h2 ⊢
  rcases h2 with h2 | ⟨b, off, rfl, h4, h5⟩
  · rw [h2] at hn; simp at hn; omega
  · refine ⟨b, off, cap, rfl, fun w' hb j hj => ?_⟩
    obtain ⟨x, h6, h7⟩ := h5 j hj
    exact ⟨x, by rw [hb.cell (p := ⟨b, off + j, none⟩) h4]; exact h6, h7.on hb⟩
/-- A game whose lists are as long as it has positions, read at a later world. -/
theorem GameV.open_ {w : World} {v : Value} {g : P.G} {n : Nat} (h : GameV w v g) (h1 : g.owner.length = n) (h2 : g.prio.length = n) (h3 : g.moves.length = n) (h0 : 0 < n) :
    ∃ ba oa ka bb ob kb bc oc kc, v = .agg #[.slice (some ⟨ba, oa, none⟩) n ka, .slice (some ⟨bb, ob, none⟩) n kb, .slice (some ⟨bc, oc, none⟩) n kc] ∧
      (∀ w', Below w.heap.size w w' → ∀ j, j < n → w'.cell? ⟨ba, oa + j, none⟩ = some (.int .i64 (g.owner.getD j 0))) ∧
      (∀ w', Below w.heap.size w w' → ∀ j, j < n → w'.cell? ⟨bb, ob + j, none⟩ = some (.int .i64 (g.prio.getD j 0))) ∧
      (∀ w', Below w.heap.size w w' → ∀ j, j < n → ∃ x, w'.cell? ⟨bc, oc + j, none⟩ = some x ∧ Ints w' x (g.moves.getD j [])) := by
  obtain ⟨a, b, c, rfl, ha, hb, hc⟩ := h
  obtain ⟨ba, oa, ka, rfl, ca⟩ := ha.open_ h1 h0
  obtain ⟨bb, ob, kb, rfl, cb⟩ := hb.open_ h2 h0
  obtain ⟨bc, oc, kc, rfl, cc⟩ := hc.open_ h3 h0
  exact ⟨ba, oa, ka, bb, ob, kb, bc, oc, kc, rfl, ca, cb, cc⟩
end W
end Go.Proofs.YtghdjkpndhcplaaDoor
end
