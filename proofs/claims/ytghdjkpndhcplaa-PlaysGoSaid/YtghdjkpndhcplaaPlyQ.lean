/- Plays against a script: there is one end; a script written twice over. Plain. -/
import Derived.Test.YtghdjkpndhcplaaPlyP
namespace Go.Proofs.Ytghdjkpndhcplaa
namespace P
/-- The stand behind so many steps. -/
def seqS (f : Nat × Nat → Option (Nat × Nat)) (s0 : Nat × Nat) : Nat → Option (Nat × Nat)
  | 0 => some s0
  | k + 1 => (seqS f s0 k).bind f
theorem seqS_shift {f : Nat × Nat → Option (Nat × Nat)} {s0 a : Nat × Nat} (h : f s0 = some a) : ∀ k, seqS f s0 (k + 1) = seqS f a k
  | 0 => by show (some s0).bind f = some a; exact h
  | k + 1 => by
    show (seqS f s0 (k + 1)).bind f = (seqS f a k).bind f
    rw [seqS_shift h k]
/-- A chain is what one comes to, step by step. -/
theorem Chain.seq {f : Nat × Nat → Option (Nat × Nat)} : ∀ {l : List (Nat × Nat)} {s s0 : Nat × Nat}, Chain f l s → (l ++ [s]).head? = some s0 → (∀ j a, l[j]? = some a → seqS f s0 j = some a) ∧ seqS f s0 l.length = some s
  | [], s, s0, _, h => ⟨fun j a hj => by simp at hj, by
    have e : s = s0 := by simpa using h
    rw [e]
    rfl⟩
  | [a], s, s0, hc, h => by
    have e : a = s0 := by simpa using h
    subst e
    refine ⟨fun j b hj => ?_, ?_⟩
    · match j, hj with
      | 0, hj => simp at hj; rw [← hj]; rfl
      | j + 1, hj => simp at hj
    · show (some a).bind f = some s
      exact hc
  | a :: b :: l, s, s0, hc, h => by
    have e : a = s0 := by simpa using h
    subst e
    obtain ⟨h1, h2⟩ := Chain.seq (l := b :: l) hc.2 (s0 := b) rfl
    refine ⟨fun j c hj => ?_, ?_⟩
    · match j, hj with
      | 0, hj => simp at hj; rw [← hj]; rfl
      | j + 1, hj => rw [seqS_shift hc.1 j]; exact h1 j c (by simpa using hj)
    · rw [show (a :: b :: l).length = (b :: l).length + 1 from rfl, seqS_shift hc.1]
      exact h2
/-- How far one has come: no stand twice, each the one behind the one ahead. -/
structure Way (f : Nat × Nat → Option (Nat × Nat)) (s0 : Nat × Nat) (l : List (Nat × Nat)) (s : Nat × Nat) : Prop where
  nodup : l.Nodup
  chain : Chain f l s
  head : (l ++ [s]).head? = some s0
theorem Way.start (f : Nat × Nat → Option (Nat × Nat)) (s0 : Nat × Nat) : Way f s0 [] s0 := ⟨List.nodup_nil, trivial, rfl⟩
theorem Way.next {f : Nat × Nat → Option (Nat × Nat)} {s0 s t : Nat × Nat} {l : List (Nat × Nat)} (h : Way f s0 l s) (hn : s ∉ l) (hs : f s = some t) : Way f s0 (l ++ [s]) t :=
  ⟨List.nodup_append.2 ⟨h.nodup, by simp, fun a ha b hb e => by
    rw [List.mem_singleton] at hb
    exact hn (by rw [← hb, ← e]; exact ha)⟩, h.chain.snoc hs, by
    have := h.head
    cases l with
    | nil => simpa using this
    | cons a l => simpa using this⟩
theorem Way.at_ {f : Nat × Nat → Option (Nat × Nat)} {s0 s : Nat × Nat} {l : List (Nat × Nat)} (h : Way f s0 l s) : (∀ j a, l[j]? = some a → seqS f s0 j = some a) ∧ seqS f s0 l.length = some s := Chain.seq h.chain h.head
/-- Two ways, one of them to its end: the other is no longer. -/
theorem Way.le {f : Nat × Nat → Option (Nat × Nat)} {s0 s t : Nat × Nat} {l m : List (Nat × Nat)} (h : Way f s0 l s) (k : Way f s0 m t) (he : s ∈ l ∨ f s = none) : m.length ≤ l.length := by
  rcases Nat.lt_or_ge l.length m.length with hlt | hge
  · exfalso
    have h1 := h.at_
    have k1 := k.at_
    have hm : m[l.length]? = some s := by
      have e := k1.1 l.length _ (List.getElem?_eq_getElem hlt)
      rw [h1.2] at e
      rw [List.getElem?_eq_getElem hlt, ← e]
    rcases he with he | he
    · obtain ⟨i, hi⟩ := List.mem_iff_getElem?.1 he
      have hil := (List.getElem?_eq_some_iff.1 hi).1
      have e1 := h1.1 i s hi
      have e2 := k1.1 i _ (List.getElem?_eq_getElem (by omega : i < m.length))
      rw [e1] at e2
      have hmi : m[i]? = some s := by rw [List.getElem?_eq_getElem (by omega : i < m.length), ← e2]
      obtain ⟨p1, p2⟩ := List.getElem?_eq_some_iff.1 hmi
      obtain ⟨q1, q2⟩ := List.getElem?_eq_some_iff.1 hm
      exact List.pairwise_iff_getElem.1 k.nodup i l.length p1 q1 hil (p2.trans q2.symm)
    · have e : seqS f s0 (l.length + 1) = none := by
        show (seqS f s0 l.length).bind f = none
        rw [h1.2]
        exact he
      rcases Nat.lt_or_ge (l.length + 1) m.length with h2 | h2
      · rw [k1.1 _ _ (List.getElem?_eq_getElem h2)] at e; cases e
      · rw [show l.length + 1 = m.length by omega, k1.2] at e; cases e
  · exact hge
/-- There is one end. -/
theorem Way.one {f : Nat × Nat → Option (Nat × Nat)} {s0 s t : Nat × Nat} {l m : List (Nat × Nat)} (h : Way f s0 l s) (k : Way f s0 m t) (he : s ∈ l ∨ f s = none) (ke : t ∈ m ∨ f t = none) : l = m ∧ s = t := by
  have hl : l.length = m.length := Nat.le_antisymm (k.le h ke) (h.le k he)
  have h1 := h.at_
  have k1 := k.at_
  refine ⟨List.ext_getElem? fun i => ?_, ?_⟩
  · rcases Nat.lt_or_ge i l.length with hi | hi
    · have e1 := h1.1 i _ (List.getElem?_eq_getElem hi)
      have e2 := k1.1 i _ (List.getElem?_eq_getElem (by omega : i < m.length))
      rw [e1] at e2
      injection e2 with e2
      rw [List.getElem?_eq_getElem hi, List.getElem?_eq_getElem (by omega : i < m.length), e2]
    · rw [List.getElem?_eq_none hi, List.getElem?_eq_none (by omega)]
  · have e := h1.2
    rw [hl, k1.2] at e
    injection e with e
    exact e.symm
/-- A way among few stands is short. -/
theorem Way.short {f : Nat × Nat → Option (Nat × Nat)} {s0 s : Nat × Nat} {l : List (Nat × Nat)} (h : Way f s0 l s) {n m : Nat} (hb : ∀ a ∈ l, a.1 < n ∧ a.2 < m) : l.length ≤ n * m := by
  have h1 : (l.map fun a => a.1 * m + a.2).Nodup := by
    refine List.Pairwise.map _ ?_ (List.Pairwise.and_mem.1 h.nodup)
    rintro a b ⟨ha, hb2, hne⟩ e
    have h2 := hb a ha
    have h3 := hb b hb2
    have e1 : (a.1 * m + a.2) / m = (b.1 * m + b.2) / m := by rw [e]
    have hm : 0 < m := by omega
    rw [Nat.mul_comm a.1, Nat.mul_comm b.1, Nat.mul_add_div hm, Nat.mul_add_div hm, Nat.div_eq_of_lt h2.2, Nat.div_eq_of_lt h3.2] at e1
    have e2 : a.1 = b.1 := by omega
    rw [e2] at e
    exact hne (Prod.ext e2 (by omega))
  have h2 := nodup_lt (n * m) _ h1 fun x hx => by
    obtain ⟨a, ha, rfl⟩ := List.mem_map.1 hx
    have h3 := hb a ha
    have h4 : a.1 * m + m ≤ n * m := by
      rw [← Nat.succ_mul]
      exact Nat.mul_le_mul_right m h3.1
    omega
  rw [List.length_map] at h2
  exact h2
end P
end Go.Proofs.Ytghdjkpndhcplaa
