/- The document's lists of stands: two cells each. -/
import Derived.Test.YtghdjkpndhcplaaGrowR
import Derived.Test.YtghdjkpndhcplaaPlyR
import Derived.Test.YtghdjkpndhcplaaReads
namespace Go.Proofs.Ytghdjkpndhcplaa
open Go.RowKit
namespace W

abbrev sl2 (a : Nat × Nat) : List Value := [.int .i64 (a.1 : Int), .int .i64 (a.2 : Int)]
abbrev sc2 (a : Nat × Nat) : Array Value := #[.int .i64 (a.1 : Int), .int .i64 (a.2 : Int)]
def flatS (l : List (Nat × Nat)) : List Value := l.flatMap sl2
theorem flatS_length : ∀ l : List (Nat × Nat), (flatS l).length = l.length * 2
  | [] => rfl
  | a :: l => by
    show (sl2 a ++ flatS l).length = (l.length + 1) * 2
    rw [List.length_append, flatS_length l]
    show 2 + _ = _
    omega
theorem flatS_at : ∀ (l : List (Nat × Nat)) (j i : Nat), j < l.length → i < 2 → (flatS l)[j * 2 + i]? = (sl2 (l.getD j (0, 0)))[i]?
  | a :: l, 0, i, _, hi => by
    show (sl2 a ++ flatS l)[0 * 2 + i]? = _
    rw [List.getElem?_append_left (by show _ < 2; omega), Nat.zero_mul, Nat.zero_add]
    rfl
  | a :: l, j + 1, i, hj, hi => by
    show (sl2 a ++ flatS l)[(j + 1) * 2 + i]? = _
    rw [List.getElem?_append_right (by show 2 ≤ _; omega), show (j + 1) * 2 + i - (sl2 a).length = j * 2 + i by show _ - 2 = _; omega, flatS_at l j i (by simpa using hj) hi]
    rfl
/-- A list of stands, wherever it lies. -/
def StV (w : World) (v : Value) (l : List (Nat × Nat)) : Prop := ∃ ao cap, v = .slice ao l.length cap ∧ l.length ≤ 17592186043904 ∧ (l = [] ∨ ∃ b off, ao = some ⟨b, off, none⟩ ∧ b < w.heap.size ∧ ∀ j, j < l.length → w.cell? ⟨b, off + j * 2, none⟩ = some (.int .i64 ((l.getD j (0, 0)).1 : Int)) ∧ w.cell? ⟨b, off + j * 2 + 1, none⟩ = some (.int .i64 ((l.getD j (0, 0)).2 : Int)))
theorem StV.on {w w' : World} {v : Value} {l : List (Nat × Nat)} (h : StV w v l) (hb : Below w.heap.size w w') : StV w' v l := by
  obtain ⟨ao, cap, rfl, h1, h2⟩ := h
  refine ⟨ao, cap, rfl, h1, ?_⟩
  rcases h2 with h2 | ⟨b, off, h3, h4, h5⟩
  · exact .inl h2
  · exact .inr ⟨b, off, h3, Nat.lt_of_lt_of_le h4 hb.size, fun j hj => by rw [hb.cell (p := ⟨b, off + j * 2, none⟩) h4, hb.cell (p := ⟨b, off + j * 2 + 1, none⟩) h4]; exact h5 j hj⟩
theorem StV.open_ {w : World} {v : Value} {l : List (Nat × Nat)} {n : Nat} (h : StV w v l) (hn : l.length = n) (h0 : 0 < n) :
    ∃ b off cap, v = .slice (some ⟨b, off, none⟩) n cap ∧ b < w.heap.size ∧ ∀ j, j < n → w.cell? ⟨b, off + j * 2, none⟩ = some (.int .i64 ((l.getD j (0, 0)).1 : Int)) ∧ w.cell? ⟨b, off + j * 2 + 1, none⟩ = some (.int .i64 ((l.getD j (0, 0)).2 : Int)) := by
  obtain ⟨ao, cap, rfl, -, h2⟩ := h
  rcases h2 with h2 | ⟨b, off, rfl, h4, h5⟩
  · rw [h2] at hn; simp at hn; omega
  · rw [hn]
    exact ⟨b, off, cap, rfl, h4, fun j hj => h5 j (by omega)⟩
/-- The call's own list of stands. -/
def OwnS (w : World) (lo : Nat) (v : Value) (l : List (Nat × Nat)) : Prop := w.ownsRow lo 41 2 v l.length (flatS l)
theorem OwnS.nil (w : World) (lo : Nat) : OwnS w lo (.slice none 0 0) [] := World.ownsRow_nil w lo _ 2
theorem OwnS.grown {w w' : World} {lo : Nat} {v : Value} {l : List (Nat × Nat)} (h : OwnS w lo v l) (hg : w.grownBy w' none) : OwnS w' lo v l := World.ownsRow.kept (w := w) h hg (by cases v.ownBlock <;> simp)
theorem OwnS.slice {w : World} {lo : Nat} {v : Value} {l : List (Nat × Nat)} (h : OwnS w lo v l) : ∃ ao k, v = .slice ao l.length k := by
  rcases h.2 with ⟨rfl, h0⟩ | ⟨g, cap, cur, rfl, _⟩
  · exact ⟨none, 0, by rw [h0]⟩
  · exact ⟨_, _, rfl⟩
theorem OwnS.stands {w : World} {lo : Nat} {v : Value} {l : List (Nat × Nat)} (h : OwnS w lo v l) (hl : l.length ≤ 17592186043904) : StV w v l := by
  by_cases h0 : l.length = 0
  · obtain ⟨ao, k, rfl⟩ := h.slice
    exact ⟨ao, k, rfl, hl, .inl (List.eq_nil_of_length_eq_zero h0)⟩
  · obtain ⟨g, cap, rfl, h1, h2⟩ := World.ownsRow.form (w := w) h (by omega)
    have hw : w.ownsRow lo 41 2 (.slice (some ⟨g, 0, none⟩) l.length cap) l.length (flatS l) := h
    have key : ∀ j i, j < l.length → i < 2 → w.cell? ⟨g, 0 + j * 2 + i, none⟩ = (sl2 (l.getD j (0, 0)))[i]? := fun j i hj hi => by
      rw [Nat.zero_add, hw.cellAt (j * 2 + i) (by omega), flatS_at l j i hj hi]
    exact ⟨_, cap, rfl, hl, .inr ⟨g, 0, rfl, h2, fun j hj => ⟨key j 0 hj (by decide), key j 1 hj (by decide)⟩⟩⟩
theorem info_stand : (Try.prog.info? 41).map (fun i => (i.zero, i.size, i.bytes)) = some (some (.agg #[.int .i64 0, .int .i64 0]), 2, 16) := by kernel_rfl
theorem und_stands : Try.prog.underlying 39 = some (.slice 41) := Try.underlying39
theorem sl2_one (a : Nat × Nat) : ∀ u ∈ sl2 a, u.oneCell' = true := by
  intro u hu
  simp only [List.mem_cons, List.not_mem_nil, or_false] at hu
  rcases hu with rfl | rfl <;> rfl
theorem run_append2 {w : World} {lo : Nat} {v : Value} {l : List (Nat × Nat)} (hown : OwnS w lo v l) {q : Nat} {t : Nat × Nat} (hb : Box w q 41 (sc2 t)) (ty : TypeId) (hby : (l.length + 1) * 16 ≤ 140737488355328) (hlo : lo ≤ w.heap.size) :
    ∃ v' w', (Builtin.append_ #[39, 39] ty #[v, .slice (some ⟨q, 0, none⟩) 1 1]).run Try.prog w = .ok v' w' ∧ OwnS w' lo v' (l ++ [t]) ∧ w.grownBy w' v.ownBlock ∧ (v'.ownBlock = v.ownBlock ∨ v'.ownBlock = some w.heap.size) := by
  obtain ⟨i, hi, hz, hsz, hbt⟩ := info_parts info_stand
  obtain ⟨v', w', h1, h2, h3, -, h5⟩ := run_append_own_at (P := Try.prog) w lo 39 ty 41 i _ 2 16 und_stands hi hz hsz hbt rfl (by decide) v l.length (flatS l) hown ⟨q, 0, none⟩ 1 1 (sl2 t) rfl (fun j u hu => by
    rw [addr_add, Nat.zero_add]
    refine hb.cell j u ?_
    show (sl2 t).toArray[j]? = some u
    rw [List.getElem?_toArray]
    exact hu) (sl2_one t) (by unfold maxLen; omega) (by omega) hlo
  refine ⟨v', w', h1, ?_, h3, h5⟩
  unfold OwnS
  have e : flatS (l ++ [t]) = flatS l ++ sl2 t := by unfold flatS; rw [List.flatMap_append]; simp
  rw [e, List.length_append]
  exact h2
theorem wpl_append2 {w : World} {ops : Array Oper} {rest : List Oper} {o : Oper} {a : Act} {Q : Exit → Act → World → Prop} (hgd : o.guard = none) (s x : Operand)
    (ho : o.op = .call { callee := .builtin .append, args := #[s, x], argTypes := #[39, 39] }) {lo : Nat} {v : Value} {l : List (Nat × Nat)} (hs : a.eval s = v) (hown : OwnS w lo v l) {q : Nat} {t : Nat × Nat} (hx : a.eval x = .slice (some ⟨q, 0, none⟩) 1 1) (hb : Box w q 41 (sc2 t)) (hby : (l.length + 1) * 16 ≤ 140737488355328) (hlo : lo ≤ w.heap.size)
    (h : ∀ v' w', OwnS w' lo v' (l ++ [t]) → w.grownBy w' v.ownBlock → (v'.ownBlock = v.ownBlock ∨ v'.ownBlock = some w.heap.size) → wpList Try.prog ops Q rest (a.put o.dst v') w') : wpList Try.prog ops Q (o :: rest) a w := by
  obtain ⟨v', w', hrun, h2, h3, h4⟩ := run_append2 hown hb o.type hby hlo
  exact wpList_plain hgd fun _ hK => op_append ho hs hx hrun (hK _ _ (h v' w' h2 h3 h4))
end W
end Go.Proofs.Ytghdjkpndhcplaa
