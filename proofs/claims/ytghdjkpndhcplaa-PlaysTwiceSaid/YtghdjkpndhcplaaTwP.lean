/- PlaysTwice: a script written twice over says the same. Plain. -/
import Derived.Test.YtghdjkpndhcplaaRunP
namespace Go.Proofs.Ytghdjkpndhcplaa
namespace P
/-- The position behind so many moves, as a play tells it. -/
def posOf (A B : List Int) (k : Nat) : Int := if k < A.length then A.getD k 0 else B.getD ((k - A.length) % B.length) 0
theorem posOf_way {f : Nat × Nat → Option (Nat × Nat)} {s0 s : Nat × Nat} {l : List (Nat × Nat)} {i : Nat} (h : Way f s0 l s) (hi : l[i]? = some s) {k : Nat} {a : Nat × Nat} (hs : seqS f s0 k = some a) :
    posOf ((l.take i).map fun a => (a.1 : Int)) ((l.drop i).map fun a => (a.1 : Int)) k = (a.1 : Int) := by
  have hil := (List.getElem?_eq_some_iff.1 hi).1
  have h1 := h.tells hi k
  rw [hs] at h1
  have e1 : ((l.take i).map fun a => (a.1 : Int)).length = i := by rw [List.length_map, List.length_take]; omega
  have e2 : ((l.drop i).map fun a => (a.1 : Int)).length = l.length - i := by rw [List.length_map, List.length_drop]
  unfold posOf
  rw [e1, e2]
  by_cases hk : k < i
  · rw [if_pos hk] at h1 ⊢
    rw [List.getD_eq_getElem?_getD, List.getElem?_map, List.getElem?_take_of_lt hk, ← h1]
    rfl
  · rw [if_neg hk] at h1 ⊢
    rw [List.getD_eq_getElem?_getD, List.getElem?_map, List.getElem?_drop, ← h1]
    rfl
theorem twice17 {g : G} {z p : Int} {moves script A B A' B' : List Int} {tp tp' : Int} {c c' : Nat} (h : PlayP g z p moves script A B tp c) (k : PlayP g z p moves (script ++ script) A' B' tp' c') (hl : script.length ≤ 32) :
    c = c' ∧ (c = 0 → tp = tp' ∧ 0 < B.length ∧ 0 < B'.length ∧ ∀ i, posOf A B i = posOf A' B' i) := by
  have hl2 : (script ++ script).length ≤ 64 := by rw [List.length_append]; omega
  have pos : ∀ {A B : List Int} {tp : Int} {s : List Int}, PlayP g z p moves s A B tp 0 → 0 < B.length := by
    intro A B tp s h
    rcases h with ⟨-, -, -, -, h⟩ | ⟨-, -, -, -, -, h⟩ | ⟨-, -, ⟨l, s, i, -, hi, -, rfl, -, -⟩ | ⟨l, s, -, -, -, -, -, h⟩⟩
    · cases h
    · cases h
    · have := (List.getElem?_eq_some_iff.1 hi).1
      rw [List.length_map, List.length_drop]
      omega
    · cases h
  by_cases h0 : script = []
  · subst h0
    obtain ⟨rfl, rfl, rfl, rfl⟩ := h.unique k
    exact ⟨rfl, fun hc => by
      subst hc
      exact ⟨rfl, pos h, pos h, fun _ => rfl⟩⟩
  · have hm : 0 < script.length := List.length_pos_iff.2 h0
    have e1 : scr script = script := by unfold scr; rw [if_neg (by omega)]
    have e2 : scr (script ++ script) = script ++ script := by unfold scr; rw [if_neg (by rw [List.length_append]; omega)]
    unfold PlayP at h k
    rw [e1] at h
    rw [e2] at k
    rcases h with ⟨hf, rfl, rfl, rfl, rfl⟩ | ⟨hf, hl, rfl, rfl, rfl, rfl⟩ | ⟨hf, -, h⟩
    · rcases k with ⟨kf, rfl, rfl, rfl, rfl⟩ | ⟨kf, kl, rfl, rfl, rfl, rfl⟩ | ⟨kf, -, -⟩
      · exact ⟨rfl, fun h => (by cases h)⟩
      · exact absurd kf hf
      · exact absurd kf hf
    · omega
    · rcases k with ⟨kf, rfl, rfl, rfl, rfl⟩ | ⟨kf, kl, rfl, rfl, rfl, rfl⟩ | ⟨kf, -, k⟩
      · exact absurd hf kf
      · omega
      · rcases h with ⟨l, s, i, h1, h2, rfl, rfl, rfl, rfl⟩ | ⟨l, s, h1, h2, rfl, rfl, rfl, rfl⟩
        · rcases k with ⟨m, t, j, k1, k2, rfl, rfl, rfl, rfl⟩ | ⟨m, t, k1, k2, rfl, rfl, rfl, rfl⟩
          · refine ⟨rfl, fun _ => ?_⟩
            have hil := (List.getElem?_eq_some_iff.1 h2).1
            have hjl := (List.getElem?_eq_some_iff.1 k2).1
            obtain ⟨q1, q2⟩ := twin_ends rfl hm h1 h2 k1 k2
            refine ⟨by rw [q1], by rw [List.length_map, List.length_drop]; omega, by rw [List.length_map, List.length_drop]; omega, fun n => ?_⟩
            obtain ⟨a, b, ha, hb, e⟩ := q2 n
            rw [posOf_way h1 h2 ha, posOf_way k1 k2 hb, e]
          · exact ((twin_fails rfl hm h1 k1).1 i h2 k2).elim
        · rcases k with ⟨m, t, j, k1, k2, rfl, rfl, rfl, rfl⟩ | ⟨m, t, k1, k2, rfl, rfl, rfl, rfl⟩
          · exact ((twin_fails rfl hm h1 k1).2 j k2 h2).elim
          · exact ⟨rfl, fun h => (by cases h)⟩
end P
end Go.Proofs.Ytghdjkpndhcplaa
