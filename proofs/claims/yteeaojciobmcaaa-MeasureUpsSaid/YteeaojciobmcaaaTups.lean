/- Lists of tuples in memory. -/
import Derived.Test.YteeaojciobmcaaaUp
import Derived.Test.YteeaojciobmcaaaMoves
namespace Go.Proofs.Yteeaojciobmcaaa
open Go.RowKit
namespace W

def tl (t : P.Tup) : List Value := [.bool t.top, .int .i64 t.a, .int .i64 t.b, .int .i64 t.c, .int .i64 t.d]
def flatL (l : List P.Tup) : List Value := l.flatMap tl
def flatT (l : List P.Tup) : Array Value := (flatL l).toArray
theorem flatL_cons (t : P.Tup) (l : List P.Tup) : flatL (t :: l) = tl t ++ flatL l := rfl
theorem flatL_len : ∀ l : List P.Tup, (flatL l).length = l.length * 5
  | [] => rfl
  | t :: l => by
    rw [flatL_cons, List.length_append, flatL_len l, List.length_cons]
    show 5 + l.length * 5 = (l.length + 1) * 5
    omega
theorem flatL_at : ∀ (l : List P.Tup) (j i : Nat), j < l.length → i < 5 → (flatL l)[j * 5 + i]? = (tl (l.getD j .zero))[i]?
  | [], j, i, h, _ => nomatch h
  | t :: l, 0, i, _, hi => by
    rw [flatL_cons, Nat.zero_mul, Nat.zero_add, List.getElem?_append_left (by show i < 5; exact hi)]
    rfl
  | t :: l, j + 1, i, h, hi => by
    have e : (j + 1) * 5 + i - (tl t).length = j * 5 + i := by
      show (j + 1) * 5 + i - 5 = j * 5 + i
      omega
    rw [flatL_cons, List.getElem?_append_right (by show 5 ≤ (j + 1) * 5 + i; omega), e, flatL_at l j i (by simpa using h) hi, List.getD_cons_succ]
theorem flatL_set (t : P.Tup) : ∀ (l : List P.Tup) (j : Nat), j < l.length → ((((((flatL l).set (j * 5) (.bool t.top)).set (j * 5 + 1) (.int .i64 t.a)).set (j * 5 + 2) (.int .i64 t.b)).set (j * 5 + 3) (.int .i64 t.c)).set (j * 5 + 4) (.int .i64 t.d)) = flatL (l.set j t)
  | [], j, h => nomatch h
  | u :: l, 0, _ => by
    rw [flatL_cons, List.set_cons_zero, flatL_cons]
    rfl
  | u :: l, j + 1, h => by
    have key : ∀ (i : Nat) (v : Value) (L : List Value), i < 5 → (tl u ++ L).set ((j + 1) * 5 + i) v = tl u ++ L.set (j * 5 + i) v := by
      intro i v L hi
      rw [List.set_append, if_neg (by show ¬ (j + 1) * 5 + i < 5; omega)]
      congr 2
      show (j + 1) * 5 + i - 5 = j * 5 + i
      omega
    have k0 := fun v L => key 0 v L (by omega)
    simp only [Nat.add_zero] at k0
    rw [flatL_cons, List.set_cons_succ, flatL_cons, k0, key 1 _ _ (by omega), key 2 _ _ (by omega), key 3 _ _ (by omega), key 4 _ _ (by omega), flatL_set t l j (by simpa using h)]
/-- A list of tuples, wherever it lies. -/
def TupsV (w : World) (v : Value) (l : List P.Tup) : Prop := ∃ ao cap, v = .slice ao l.length cap ∧ l.length ≤ 17592186043904 ∧ (l = [] ∨ ∃ b off, ao = some ⟨b, off, none⟩ ∧ b < w.heap.size ∧ ∀ j, j < l.length → ∀ i u, (tl (l.getD j .zero))[i]? = some u → w.cell? ⟨b, off + j * 5 + i, none⟩ = some u)
theorem TupsV.on {w w' : World} {v : Value} {l : List P.Tup} (h : TupsV w v l) (hb : Below w.heap.size w w') : TupsV w' v l := by
  obtain ⟨ao, cap, rfl, h1, h2⟩ := h
  refine ⟨ao, cap, rfl, h1, ?_⟩
  rcases h2 with h2 | ⟨b, off, h3, h4, h5⟩
  · exact .inl h2
  · exact .inr ⟨b, off, h3, Nat.lt_of_lt_of_le h4 hb.size, fun j hj i u hu => by rw [hb.cell (p := ⟨b, off + j * 5 + i, none⟩) h4]; exact h5 j hj i u hu⟩
/-- Its cells, at any later world. -/
theorem TupsV.open_ {w : World} {v : Value} {l : List P.Tup} (h : TupsV w v l) {n : Nat} (hn : l.length = n) (h0 : 0 < n) : ∃ b off cap, v = .slice (some ⟨b, off, none⟩) n cap ∧ b < w.heap.size ∧ ∀ w', Below w.heap.size w w' → ∀ j, j < n → ∀ i u, (tl (l.getD j .zero))[i]? = some u → w'.cell? ⟨b, off + j * 5 + i, none⟩ = some u := by
  obtain ⟨ao, cap, rfl, h1, h2⟩ := h
  obtain ⟨b, off, rfl, h4, h5⟩ := h2.resolve_left (fun e => by rw [e] at hn; simp at hn; omega)
  subst hn
  exact ⟨b, off, cap, rfl, h4, fun w' hb j hj i u hu => by rw [hb.cell (p := ⟨b, off + j * 5 + i, none⟩) h4]; exact h5 j hj i u hu⟩
theorem Box.tups {w : World} {q : Nat} {ty : TypeId} {l : List P.Tup} (h : Box w q ty (flatT l)) (hl : l.length ≤ 17592186043904) (k : Nat) : TupsV w (.slice (some ⟨q, 0, none⟩) l.length k) l :=
  ⟨_, k, rfl, hl, .inr ⟨q, 0, rfl, h.lt, fun j hj i u hu => by
    have hi : i < 5 := by
      have := (List.getElem?_eq_some_iff.1 hu).1
      exact this
    refine h.cell _ u ?_
    rw [Nat.zero_add]
    unfold flatT
    rw [List.getElem?_toArray, flatL_at l j i hj hi]
    exact hu⟩⟩
/-- A tuple of an own list written over. -/
theorem Box.setAt {w : World} {q : Nat} {ty : TypeId} {l : List P.Tup} (h : Box w q ty (flatT l)) (j : Nat) (hj : j < l.length) (t : P.Tup) : Box (((((w.setCell ⟨q, j * 5, none⟩ (.bool t.top)).setCell ⟨q, j * 5 + 1, none⟩ (.int .i64 t.a)).setCell ⟨q, j * 5 + 2, none⟩ (.int .i64 t.b)).setCell ⟨q, j * 5 + 3, none⟩ (.int .i64 t.c)).setCell ⟨q, j * 5 + 4, none⟩ (.int .i64 t.d)) q ty (flatT (l.set j t)) := by
  have e : flatT (l.set j t) = ((((((flatT l).setIfInBounds (j * 5) (.bool t.top)).setIfInBounds (j * 5 + 1) (.int .i64 t.a)).setIfInBounds (j * 5 + 2) (.int .i64 t.b)).setIfInBounds (j * 5 + 3) (.int .i64 t.c)).setIfInBounds (j * 5 + 4) (.int .i64 t.d)) := by
    unfold flatT
    rw [← flatL_set t l j hj]
    simp only [List.setIfInBounds_toArray]
  rw [e]
  exact ((((h.set _ _).set _ _).set _ _).set _ _).set _ _
theorem flat_zero (n : Nat) : flatL (List.replicate n .zero) = (List.replicate n (tl .zero)).flatten := by
  unfold flatL
  rw [List.flatMap_def, List.map_replicate]
end W
end Go.Proofs.Yteeaojciobmcaaa
