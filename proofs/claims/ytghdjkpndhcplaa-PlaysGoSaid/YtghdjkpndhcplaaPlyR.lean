/- Plays that go round: the position behind so many moves; a script written twice over says the same. Plain. -/
import Derived.Test.YtghdjkpndhcplaaPlyQ
namespace Go.Proofs.Ytghdjkpndhcplaa
namespace P
theorem seqS_same {f : Nat × Nat → Option (Nat × Nat)} {s0 : Nat × Nat} {i j : Nat} (h : seqS f s0 i = seqS f s0 j) : ∀ t, seqS f s0 (i + t) = seqS f s0 (j + t)
  | 0 => h
  | t + 1 => by
    show (seqS f s0 (i + t)).bind f = (seqS f s0 (j + t)).bind f
    rw [seqS_same h t]
section
variable {f : Nat × Nat → Option (Nat × Nat)} {s0 s : Nat × Nat} {l : List (Nat × Nat)} {i : Nat}
/-- A way that comes again to place i goes round from there. -/
theorem Way.period (h : Way f s0 l s) (hi : l[i]? = some s) (t : Nat) : seqS f s0 (i + t) = l[i + t % (l.length - i)]? := by
  have h1 := h.at_
  have hil := (List.getElem?_eq_some_iff.1 hi).1
  have hd : 0 < l.length - i := by omega
  have back : ∀ t, seqS f s0 (l.length + t) = seqS f s0 (i + t) := seqS_same (by rw [h1.2, h1.1 i s hi])
  induction t using Nat.strongRecOn with
  | ind t ih =>
    rcases Nat.lt_or_ge t (l.length - i) with ht | ht
    · rw [Nat.mod_eq_of_lt ht, List.getElem?_eq_getElem (by omega : i + t < l.length)]
      exact h1.1 _ _ (List.getElem?_eq_getElem (by omega))
    · have e : i + t = l.length + (t - (l.length - i)) := by omega
      rw [e, back, ih (t - (l.length - i)) (by omega)]
      congr 2
      rw [Nat.mod_eq_sub_mod ht]
/-- The stand behind k moves, as the play tells it. -/
theorem Way.tells (h : Way f s0 l s) (hi : l[i]? = some s) (k : Nat) : seqS f s0 k = if k < i then l[k]? else l[i + (k - i) % (l.length - i)]? := by
  have hil := (List.getElem?_eq_some_iff.1 hi).1
  by_cases hk : k < i
  · rw [if_pos hk, List.getElem?_eq_getElem (by omega : k < l.length)]
    exact h.at_.1 k _ (List.getElem?_eq_getElem (by omega))
  · rw [if_neg hk, ← h.period hi (k - i), show i + (k - i) = k by omega]
theorem Way.goes (h : Way f s0 l s) (hi : l[i]? = some s) (k : Nat) : ∃ a ∈ l, seqS f s0 k = some a := by
  have hil := (List.getElem?_eq_some_iff.1 hi).1
  have hd : 0 < l.length - i := by omega
  rw [h.tells hi k]
  by_cases hk : k < i
  · rw [if_pos hk, List.getElem?_eq_getElem (by omega : k < l.length)]
    exact ⟨_, List.getElem_mem _, rfl⟩
  · have h2 : i + (k - i) % (l.length - i) < l.length := by have := Nat.mod_lt (k - i) hd; omega
    rw [if_neg hk, List.getElem?_eq_getElem h2]
    exact ⟨_, List.getElem_mem _, rfl⟩
/-- What is in the round comes later and later; what comes late is in the round. -/
theorem Way.late (h : Way f s0 l s) (hi : l[i]? = some s) (a : Nat × Nat) (ha : a ∈ l.drop i) (N : Nat) : ∃ k, N ≤ k ∧ seqS f s0 k = some a := by
  have hil := (List.getElem?_eq_some_iff.1 hi).1
  have hd : 0 < l.length - i := by omega
  obtain ⟨j, hj⟩ := List.mem_iff_getElem?.1 ha
  rw [List.getElem?_drop] at hj
  have hjl := (List.getElem?_eq_some_iff.1 hj).1
  refine ⟨i + (j + N * (l.length - i)), ?_, ?_⟩
  · have := Nat.le_mul_of_pos_right N hd
    omega
  · rw [h.period hi, Nat.add_mul_mod_self_right, Nat.mod_eq_of_lt (by omega)]
    exact hj
theorem Way.early (h : Way f s0 l s) (hi : l[i]? = some s) {a : Nat × Nat} {k : Nat} (hk : i ≤ k) (hs : seqS f s0 k = some a) : a ∈ l.drop i := by
  have h2 := h.period hi (k - i)
  rw [show i + (k - i) = k by omega, hs, ← List.getElem?_drop] at h2
  exact List.mem_of_getElem? h2.symm
end
/-- Stands of a script, and of it twice over. -/
def Twin (m : Nat) (a b : Nat × Nat) : Prop := a.1 = b.1 ∧ b.2 % m = a.2 ∧ b.2 < 2 * m
theorem twin_step {g : G} {p : Int} {moves script : List Int} {m : Nat} (hm : script.length = m) (h0 : 0 < m) {a b : Nat × Nat} (h : Twin m a b) : (stepS g p moves script a = none ∧ stepS g p moves (script ++ script) b = none) ∨ ∃ c d, stepS g p moves script a = some c ∧ stepS g p moves (script ++ script) b = some d ∧ Twin m c d := by
  obtain ⟨a1, a2⟩ := a
  obtain ⟨b1, b2⟩ := b
  obtain ⟨e1, e2, e3⟩ := h
  replace e1 : a1 = b1 := e1
  replace e2 : b2 % m = a2 := e2
  replace e3 : b2 < 2 * m := e3
  subst e1
  unfold stepS
  simp only []
  by_cases ho : g.owner.getD a1 0 = p
  · rw [if_pos ho, if_pos ho]
    by_cases hmv : ownMove moves a1 ∈ g.moves.getD a1 []
    · rw [if_pos hmv, if_pos hmv]
      exact .inr ⟨_, _, rfl, rfl, rfl, e2, e3⟩
    · rw [if_neg hmv, if_neg hmv]
      exact .inl ⟨rfl, rfl⟩
  · rw [if_neg ho, if_neg ho]
    have es : (script ++ script).getD b2 0 = script.getD a2 0 := by
      rw [List.getD_eq_getElem?_getD, List.getD_eq_getElem?_getD]
      congr 1
      rcases Nat.lt_or_ge b2 m with hb | hb
      · rw [List.getElem?_append_left (by omega), ← e2, Nat.mod_eq_of_lt hb]
      · rw [List.getElem?_append_right (by omega), hm, ← e2, Nat.mod_eq_sub_mod hb, Nat.mod_eq_of_lt (by omega)]
    rw [es]
    refine .inr ⟨_, _, rfl, rfl, rfl, ?_, ?_⟩
    · show (b2 + 1) % (script ++ script).length % m = (a2 + 1) % script.length
      rw [List.length_append, hm, ← e2, Nat.mod_mod_of_dvd _ ⟨2, by omega⟩, Nat.mod_add_mod]
    · show (b2 + 1) % (script ++ script).length < 2 * m
      rw [List.length_append, hm]
      have := Nat.mod_lt (b2 + 1) (show 0 < m + m by omega)
      omega
theorem twin_seq {g : G} {p : Int} {moves script : List Int} {m : Nat} (hm : script.length = m) (h0 : 0 < m) (i0 : Nat) : ∀ k, (seqS (stepS g p moves script) (i0, 0) k = none ∧ seqS (stepS g p moves (script ++ script)) (i0, 0) k = none) ∨ ∃ a b, seqS (stepS g p moves script) (i0, 0) k = some a ∧ seqS (stepS g p moves (script ++ script)) (i0, 0) k = some b ∧ Twin m a b
  | 0 => .inr ⟨_, _, rfl, rfl, rfl, Nat.zero_mod m, by show 0 < 2 * m; omega⟩
  | k + 1 => by
    show ((seqS (stepS g p moves script) (i0, 0) k).bind _ = none ∧ (seqS (stepS g p moves (script ++ script)) (i0, 0) k).bind _ = none) ∨ ∃ a b, (seqS (stepS g p moves script) (i0, 0) k).bind _ = some a ∧ (seqS (stepS g p moves (script ++ script)) (i0, 0) k).bind _ = some b ∧ Twin m a b
    rcases twin_seq hm h0 i0 k with ⟨h1, h2⟩ | ⟨a, b, h1, h2, h3⟩
    · rw [h1, h2]
      exact .inl ⟨rfl, rfl⟩
    · rw [h1, h2]
      exact twin_step hm h0 h3
/-- Two rounds with the same positions have the same top. -/
theorem topS_same {g : G} {A B : List (Nat × Nat)} (h1 : ∀ a ∈ A, ∃ b ∈ B, a.1 = b.1) (h2 : ∀ b ∈ B, ∃ a ∈ A, a.1 = b.1) : topS g 0 A = topS g 0 B := by
  obtain ⟨a1, a2, a3⟩ := topS_spec g A 0
  obtain ⟨b1, b2, b3⟩ := topS_spec g B 0
  refine Int.le_antisymm ?_ ?_
  · rcases a3 with h | ⟨a, ha, h⟩
    · omega
    · obtain ⟨b, hb, e⟩ := h1 a ha
      rw [← h, e]
      exact b2 b hb
  · rcases b3 with h | ⟨b, hb, h⟩
    · omega
    · obtain ⟨a, ha, e⟩ := h2 b hb
      rw [← h, ← e]
      exact a2 a ha
/-- .. so the winner is the same, and each position behind so many moves. -/
theorem twin_ends {g : G} {p : Int} {moves script : List Int} {m : Nat} (hm : script.length = m) (h0 : 0 < m) {i0 : Nat} {l l' : List (Nat × Nat)} {s s' : Nat × Nat} {i i' : Nat} (h : Way (stepS g p moves script) (i0, 0) l s) (hi : l[i]? = some s) (h' : Way (stepS g p moves (script ++ script)) (i0, 0) l' s') (hi' : l'[i']? = some s') :
    topS g 0 (l.drop i) = topS g 0 (l'.drop i') ∧ ∀ k, ∃ a b, seqS (stepS g p moves script) (i0, 0) k = some a ∧ seqS (stepS g p moves (script ++ script)) (i0, 0) k = some b ∧ a.1 = b.1 := by
  have both : ∀ k, ∃ a b, seqS (stepS g p moves script) (i0, 0) k = some a ∧ seqS (stepS g p moves (script ++ script)) (i0, 0) k = some b ∧ a.1 = b.1 := fun k => by
    rcases twin_seq (g := g) (p := p) (moves := moves) hm h0 i0 k with ⟨h1, -⟩ | ⟨a, b, h1, h2, h3⟩
    · obtain ⟨a, -, ha⟩ := h.goes hi k
      rw [h1] at ha
      cases ha
    · exact ⟨a, b, h1, h2, h3.1⟩
  refine ⟨topS_same (fun a ha => ?_) (fun b hb => ?_), both⟩
  · obtain ⟨k, hk, hs⟩ := h.late hi a ha i'
    obtain ⟨c, d, h1, h2, h3⟩ := both k
    rw [hs] at h1
    injection h1 with h1
    exact ⟨d, h'.early hi' hk h2, by rw [h1]; exact h3⟩
  · obtain ⟨k, hk, hs⟩ := h'.late hi' b hb i
    obtain ⟨c, d, h1, h2, h3⟩ := both k
    rw [hs] at h2
    injection h2 with h2
    exact ⟨c, h.early hi hk h1, by rw [h2]; exact h3⟩
/-- A script goes round or not, twice over as once. -/
theorem twin_fails {g : G} {p : Int} {moves script : List Int} {m : Nat} (hm : script.length = m) (h0 : 0 < m) {i0 : Nat} {l l' : List (Nat × Nat)} {s s' : Nat × Nat} (h : Way (stepS g p moves script) (i0, 0) l s) (h' : Way (stepS g p moves (script ++ script)) (i0, 0) l' s') :
    (∀ i : Nat, l[i]? = some s → stepS g p moves (script ++ script) s' = none → False) ∧ (∀ i : Nat, l'[i]? = some s' → stepS g p moves script s = none → False) := by
  constructor
  · intro i hi hn
    have e : seqS (stepS g p moves (script ++ script)) (i0, 0) (l'.length + 1) = none := by
      show (seqS _ _ l'.length).bind _ = none
      rw [h'.at_.2]
      exact hn
    rcases twin_seq (g := g) (p := p) (moves := moves) hm h0 i0 (l'.length + 1) with ⟨h1, -⟩ | ⟨a, b, -, h2, -⟩
    · obtain ⟨a, -, ha⟩ := h.goes hi (l'.length + 1)
      rw [h1] at ha
      cases ha
    · rw [e] at h2; cases h2
  · intro i hi hn
    have e : seqS (stepS g p moves script) (i0, 0) (l.length + 1) = none := by
      show (seqS _ _ l.length).bind _ = none
      rw [h.at_.2]
      exact hn
    rcases twin_seq (g := g) (p := p) (moves := moves) hm h0 i0 (l.length + 1) with ⟨-, h1⟩ | ⟨a, b, h2, -, -⟩
    · obtain ⟨a, -, ha⟩ := h'.goes hi (l.length + 1)
      rw [h1] at ha
      cases ha
    · rw [e] at h2; cases h2
end P
end Go.Proofs.Ytghdjkpndhcplaa
