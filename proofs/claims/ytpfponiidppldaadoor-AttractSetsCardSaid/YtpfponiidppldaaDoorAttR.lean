/- Attraction by a queue: what holds between the rounds, and what holds at the end. Plain facts, no program. -/
import Derived.Test.YtpfponiidppldaaDoorAttP
namespace Go.Proofs.YtpfponiidppldaaDoor
namespace P
theorem told_mem {g : G} {I : BitVec 256} {Q : List Nat} {i j x q : Nat} (h : told g I Q i j x q = true) : q ∈ Q := by
  unfold told at h
  rw [Bool.or_eq_true, Bool.and_eq_true, decide_eq_true_eq] at h
  rcases h with h | h
  · exact List.mem_of_mem_take (List.contains_iff_mem.1 h)
  · exact List.mem_of_getElem? h.1
theorem told_at {g : G} {I : BitVec 256} {Q : List Nat} {i j x q : Nat} (h : told g I Q i j x q = true) : ∃ l, Q[l]? = some q ∧ l ≤ i := by
  unfold told at h
  rw [Bool.or_eq_true, Bool.and_eq_true, decide_eq_true_eq] at h
  rcases h with h | h
  · obtain ⟨l, hl, e⟩ := List.mem_iff_getElem.1 (List.contains_iff_mem.1 h)
    rw [List.length_take] at hl
    rw [List.getElem_take] at e
    exact ⟨l, List.getElem?_eq_some_iff.2 ⟨by omega, e⟩, by omega⟩
  · exact ⟨i, h.1, Nat.le_refl _⟩
theorem told_end (g : G) (I : BitVec 256) (Q : List Nat) (x q : Nat) : told g I Q Q.length 0 x q = true ↔ q ∈ Q := by
  refine ⟨told_mem, fun h => ?_⟩
  unfold told
  rw [List.take_length, List.contains_iff_mem.2 h, Bool.true_or]
theorem cnt_zero (g : G) (I : BitVec 256) (Q : List Nat) (x : Nat) : cnt g I Q 0 0 x = 0 := by
  unfold cnt
  rw [List.length_eq_zero_iff, List.filter_eq_nil_iff]
  intro m _
  unfold told
  simp
theorem cnt_le (g : G) (I : BitVec 256) (Q : List Nat) (i j x : Nat) : cnt g I Q i j x ≤ (into g I x).length := List.length_filter_le _ _
theorem cnt_full {g : G} (hr : g.Right) {I : BitVec 256} {Q : List Nat} {i j x : Nat} (hx : x < g.owner.length) : cnt g I Q i j x = (into g I x).length ↔ ∀ m : Nat, (m : Int) ∈ g.moves.getD x [] → I.getLsbD m = true → told g I Q i j x m = true := by
  unfold cnt
  rw [List.length_filter_eq_length_iff]
  constructor
  · intro h m h1 h2
    have h3 : (m : Int) ∈ into g I x := by
      unfold into
      rw [List.mem_filter, nat_has]
      exact ⟨h1, h2⟩
    have := h (m : Int) h3
    rwa [Int.toNat_natCast] at this
  · intro h m hm
    obtain ⟨k, rfl, -, h1, h2⟩ := (mem_into hr I x hx m).1 hm
    rw [Int.toNat_natCast]
    exact h k h1 h2
theorem cnt_some {g : G} {I : BitVec 256} {Q : List Nat} {i j x m : Nat} (h1 : (m : Int) ∈ g.moves.getD x []) (h2 : I.getLsbD m = true) (ht : told g I Q i j x m = true) : 0 < cnt g I Q i j x := by
  unfold cnt
  refine List.length_pos_of_mem (a := (m : Int)) (List.mem_filter.2 ⟨?_, by rw [Int.toNat_natCast]; exact ht⟩)
  unfold into
  rw [List.mem_filter, nat_has]
  exact ⟨h1, h2⟩
/-- Between the rounds: A the set, Q the queue, o how many moves are left untold, v the moves; i of the queue are done, and j of those ahead of the next one. -/
structure Round (g : G) (I : BitVec 256) (p : Int) (To A : BitVec 256) (Q : List Nat) (o v : Nat → Int) (i j : Nat) : Prop where
  nod : Q.Nodup
  bits : ∀ x, A.getLsbD x = true ↔ x ∈ Q
  sub : ∀ x, x ∈ Q → Att g I p To x
  base : ∀ x, x < g.owner.length → I.getLsbD x = true → To.getLsbD x = true → x ∈ Q
  outs : ∀ x, x < g.owner.length → I.getLsbD x = true → o x = ((into g I x).length : Int) - (cnt g I Q i j x : Int)
  mine : ∀ x, x < g.owner.length → I.getLsbD x = true → x ∉ Q → g.owner.getD x 0 = p → cnt g I Q i j x = 0
  his : ∀ x, x < g.owner.length → I.getLsbD x = true → x ∉ Q → g.owner.getD x 0 ≠ p → cnt g I Q i j x = 0 ∨ cnt g I Q i j x < (into g I x).length
  leads : ∀ (k x : Nat), Q[k]? = some x → To.getLsbD x = false → g.owner.getD x 0 = p → ∃ m l : Nat, v x = m ∧ Q[l]? = some m ∧ l < k ∧ (m : Int) ∈ g.moves.getD x []
  alls : ∀ (k x : Nat), Q[k]? = some x → To.getLsbD x = false → g.owner.getD x 0 ≠ p → ∀ m : Nat, (m : Int) ∈ g.moves.getD x [] → I.getLsbD m = true → ∃ l, Q[l]? = some m ∧ l < k
  nones : ∀ x, x ∉ Q ∨ To.getLsbD x = true ∨ g.owner.getD x 0 ≠ p → v x = -1
theorem Round.start {g : G} {I : BitVec 256} {p : Int} {To A : BitVec 256} {Q : List Nat} {o v : Nat → Int} (hn : Q.Nodup) (hA : ∀ x, A.getLsbD x = true ↔ x ∈ Q) (hQ : ∀ x, x ∈ Q ↔ x < g.owner.length ∧ I.getLsbD x = true ∧ To.getLsbD x = true)
    (ho : ∀ x, x < g.owner.length → I.getLsbD x = true → o x = ((into g I x).length : Int)) (hv : ∀ x, v x = -1) : Round g I p To A Q o v 0 0 where
  nod := hn
  bits := hA
  sub x hx := by obtain ⟨h1, h2, h3⟩ := (hQ x).1 hx; exact .base x h1 h2 h3
  base x h1 h2 h3 := (hQ x).2 ⟨h1, h2, h3⟩
  outs x h1 h2 := by rw [cnt_zero, ho x h1 h2]; omega
  mine x _ _ _ _ := cnt_zero g I Q x
  his x _ _ _ _ := .inl (cnt_zero g I Q x)
  leads k x hk ht _ := by
    have := ((hQ x).1 (List.mem_of_getElem? hk)).2.2
    rw [this] at ht; cases ht
  alls k x hk ht _ := by
    have := ((hQ x).1 (List.mem_of_getElem? hk)).2.2
    rw [this] at ht; cases ht
  nones x _ := hv x
section
variable {g : G} {I : BitVec 256} {p : Int} {To A : BitVec 256} {Q : List Nat} {o v : Nat → Int} {i j : Nat}
/-- Who was told is in the set already. -/
theorem Round.has (hr : g.Right) (h : Round g I p To A Q o v i j) {q x : Nat} (hq : Q[i]? = some q) (hx : (ahead g I q)[j]? = some x) {o' : Nat → Int} (ho : ∀ y, o' y = if y = x then o x - 1 else o y) (hA : A.getLsbD x = true) : Round g I p To A Q o' v i (j + 1) := by
  have hc := fun y => cnt_step hr I h.nod hq hx y
  have hxQ := (h.bits x).1 hA
  refine { h with outs := fun y h1 h2 => ?_, mine := fun y h1 h2 h3 h4 => ?_, his := fun y h1 h2 h3 h4 => ?_ }
  · rw [ho, hc]
    by_cases e : y = x
    · subst e; rw [if_pos rfl, if_pos rfl, h.outs y h1 h2]; omega
    · rw [if_neg e, if_neg e, h.outs y h1 h2]
  · rw [hc, if_neg (show y ≠ x from fun e => h3 (by rw [e]; exact hxQ))]; exact h.mine y h1 h2 h3 h4
  · rw [hc, if_neg (show y ≠ x from fun e => h3 (by rw [e]; exact hxQ))]; exact h.his y h1 h2 h3 h4
/-- The other one has a move left. -/
theorem Round.left (hr : g.Right) (h : Round g I p To A Q o v i j) {q x : Nat} (hq : Q[i]? = some q) (hx : (ahead g I q)[j]? = some x) {o' : Nat → Int} (ho : ∀ y, o' y = if y = x then o x - 1 else o y) (hp : g.owner.getD x 0 ≠ p) (hl : 0 < o' x) : Round g I p To A Q o' v i (j + 1) := by
  have hc := fun y => cnt_step hr I h.nod hq hx y
  have hm := (mem_ahead g I q x).1 (List.mem_of_getElem? hx)
  refine { h with outs := fun y h1 h2 => ?_, mine := fun y h1 h2 h3 h4 => ?_, his := fun y h1 h2 h3 h4 => ?_ }
  · rw [ho, hc]
    by_cases e : y = x
    · subst e; rw [if_pos rfl, if_pos rfl, h.outs y h1 h2]; omega
    · rw [if_neg e, if_neg e, h.outs y h1 h2]
  · rw [hc, if_neg (show y ≠ x from fun e => hp (by rw [← e]; exact h4))]; exact h.mine y h1 h2 h3 h4
  · rw [hc]
    by_cases e : y = x
    · subst e
      rw [if_pos rfl]
      rw [ho, if_pos rfl, h.outs y h1 h2] at hl
      exact .inr (by omega)
    · rw [if_neg e]; exact h.his y h1 h2 h3 h4
/-- Who comes in. -/
theorem Round.comes (hr : g.Right) (h : Round g I p To A Q o v i j) {q x : Nat} (hq : Q[i]? = some q) (hx : (ahead g I q)[j]? = some x) {o' v' : Nat → Int} (ho : ∀ y, o' y = if y = x then o x - 1 else o y) (hA : A.getLsbD x = false) (hin : g.owner.getD x 0 = p ∨ o' x ≤ 0)
    (hv : ∀ y, v' y = if y = x ∧ g.owner.getD x 0 = p then (q : Int) else v y) {A' : BitVec 256} (hA' : ∀ y, A'.getLsbD y = (A.getLsbD y || y == x)) : Round g I p To A' (Q ++ [x]) o' v' i (j + 1) := by
  have hi : i < Q.length := (List.getElem?_eq_some_iff.1 hq).1
  have hc : ∀ y, cnt g I (Q ++ [x]) i (j + 1) y = if y = x then cnt g I Q i j x + 1 else cnt g I Q i j y := fun y => by rw [cnt_push g I Q i (j + 1) x hi]; exact cnt_step hr I h.nod hq hx y
  have hm := (mem_ahead g I q x).1 (List.mem_of_getElem? hx)
  have hxQ : x ∉ Q := fun e => by rw [(h.bits x).2 e] at hA; cases hA
  have hout : ∀ y, y ∉ Q ++ [x] → y ∉ Q ∧ y ≠ x := fun y hy => ⟨fun e => hy (List.mem_append.2 (.inl e)), fun e => hy (List.mem_append.2 (.inr (by rw [e]; simp)))⟩
  have hTx : To.getLsbD x = false := by
    cases e : To.getLsbD x
    · rfl
    · exact absurd (h.base x hm.2.1 hm.2.2.1 e) hxQ
  have hq2 := List.mem_of_getElem? hq
  constructor
  · exact List.nodup_append.2 ⟨h.nod, by simp, fun a ha b hb => by rw [List.mem_singleton.1 hb]; exact fun e => hxQ (e ▸ ha)⟩
  · intro y
    rw [hA', Bool.or_eq_true, h.bits, beq_iff_eq, List.mem_append, List.mem_singleton]
  · intro y hy
    rcases List.mem_append.1 hy with hy | hy
    · exact h.sub y hy
    · rw [List.mem_singleton.1 hy]
      by_cases e : g.owner.getD x 0 = p
      · exact .own x q hm.2.1 hm.2.2.1 e hm.2.2.2 hm.1 (h.sub q hq2)
      · have hz : o' x ≤ 0 := hin.resolve_left e
        rw [ho, if_pos rfl, h.outs x hm.2.1 hm.2.2.1] at hz
        have hle := cnt_le g I (Q ++ [x]) i (j + 1) x
        have hcx := hc x
        rw [if_pos rfl] at hcx
        have hcq := cnt_step hr I h.nod hq hx x
        rw [if_pos rfl] at hcq
        have hf := (cnt_full hr (Q := Q) (i := i) (j := j + 1) hm.2.1 (I := I)).1 (by omega)
        exact .oth x hm.2.1 hm.2.2.1 e ⟨q, hm.2.2.2, hm.1⟩ fun m h1 h2 => h.sub m (told_mem (hf m h1 h2))
  · intro y h1 h2 h3
    exact List.mem_append.2 (.inl (h.base y h1 h2 h3))
  · intro y h1 h2
    rw [ho, hc]
    by_cases e : y = x
    · subst e; rw [if_pos rfl, if_pos rfl, h.outs y h1 h2]; omega
    · rw [if_neg e, if_neg e, h.outs y h1 h2]
  · intro y h1 h2 h3 h4
    rw [hc, if_neg (hout y h3).2]
    exact h.mine y h1 h2 (hout y h3).1 h4
  · intro y h1 h2 h3 h4
    rw [hc, if_neg (hout y h3).2]
    exact h.his y h1 h2 (hout y h3).1 h4
  · intro k y hk ht hy
    rcases Nat.lt_or_ge k Q.length with hl | hl
    · rw [List.getElem?_append_left hl] at hk
      obtain ⟨m, l, h1, h2, h3, h4⟩ := h.leads k y hk ht hy
      have hyx : y ≠ x := fun e => hxQ (e ▸ List.mem_of_getElem? hk)
      refine ⟨m, l, by rw [hv, if_neg (fun e => hyx e.1)]; exact h1, ?_, h3, h4⟩
      rw [List.getElem?_append_left (by omega)]
      exact h2
    · rw [List.getElem?_append_right hl] at hk
      have hk0 : k - Q.length = 0 := by
        have := (List.getElem?_eq_some_iff.1 hk).1
        simpa using this
      rw [hk0] at hk
      have hyx : x = y := by simpa using hk
      subst hyx
      refine ⟨q, i, by rw [hv, if_pos ⟨rfl, hy⟩], ?_, by omega, hm.2.2.2⟩
      rw [List.getElem?_append_left hi]
      exact hq
  · intro k y hk ht hy m h1 h2
    rcases Nat.lt_or_ge k Q.length with hl | hl
    · rw [List.getElem?_append_left hl] at hk
      obtain ⟨l, h3, h4⟩ := h.alls k y hk ht hy m h1 h2
      exact ⟨l, by rw [List.getElem?_append_left (by omega)]; exact h3, h4⟩
    · rw [List.getElem?_append_right hl] at hk
      have hk0 : k - Q.length = 0 := by
        have := (List.getElem?_eq_some_iff.1 hk).1
        simpa using this
      rw [hk0] at hk
      have hyx : x = y := by simpa using hk
      subst hyx
      have hz : o' x ≤ 0 := hin.resolve_left hy
      rw [ho, if_pos rfl, h.outs x hm.2.1 hm.2.2.1] at hz
      have hcq := cnt_step hr I h.nod hq hx x
      rw [if_pos rfl] at hcq
      have hle := cnt_le g I Q i (j + 1) x
      have hf := (cnt_full hr (Q := Q) (i := i) (j := j + 1) hm.2.1 (I := I)).1 (by omega) m h1 h2
      obtain ⟨l, h3, h4⟩ := told_at hf
      exact ⟨l, by rw [List.getElem?_append_left (by omega)]; exact h3, by omega⟩
  · intro y hy
    rw [hv]
    by_cases e : y = x ∧ g.owner.getD x 0 = p
    · obtain ⟨e1, e2⟩ := e
      subst e1
      rcases hy with hy | hy | hy
      · exact absurd rfl (hout y hy).2
      · rw [hTx] at hy; cases hy
      · exact absurd e2 hy
    · rw [if_neg e]
      refine h.nones y ?_
      rcases hy with hy | hy | hy
      · exact .inl (hout y hy).1
      · exact .inr (.inl hy)
      · exact .inr (.inr hy)
/-- The next one of the queue. -/
theorem Round.next (hr : g.Right) {q : Nat} (hq : Q[i]? = some q) (h : Round g I p To A Q o v i (ahead g I q).length) : Round g I p To A Q o v (i + 1) 0 := by
  have hc := fun y h1 h2 => cnt_next hr I hq y h1 h2
  exact { h with
    outs := fun y h1 h2 => by rw [hc y h1 h2]; exact h.outs y h1 h2
    mine := fun y h1 h2 h3 h4 => by rw [hc y h1 h2]; exact h.mine y h1 h2 h3 h4
    his := fun y h1 h2 h3 h4 => by rw [hc y h1 h2]; exact h.his y h1 h2 h3 h4 }
/-- At the end the set is the one. -/
theorem Round.done (hr : g.Right) (h : Round g I p To A Q o v Q.length 0) (x : Nat) : A.getLsbD x = true ↔ Att g I p To x := by
  rw [h.bits]
  refine att_iff (fun x => x ∈ Q) h.sub h.base ?_ ?_ x
  · intro y m h1 h2 h3 h4 h5 h6
    by_cases e : y ∈ Q
    · exact e
    · have := cnt_some h4 h5 ((told_end g I Q y m).2 h6)
      have := h.mine y h1 h2 e h3
      omega
  · intro y h1 h2 h3 h4 h5
    by_cases e : y ∈ Q
    · exact e
    · have hf := (cnt_full hr (Q := Q) (i := Q.length) (j := 0) h1 (I := I)).2 fun m h6 h7 => (told_end g I Q y m).2 (h5 m h6 h7)
      obtain ⟨m, h6, h7⟩ := h4
      have h8 := cnt_some h6 h7 ((told_end g I Q y m).2 (h5 m h6 h7))
      rcases h.his y h1 h2 e h3 with h9 | h9 <;> omega
end
end P
end Go.Proofs.YtpfponiidppldaaDoor
