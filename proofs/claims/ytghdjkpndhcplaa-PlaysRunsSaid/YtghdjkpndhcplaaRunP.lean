/- What Run tells. Plain, and as the program has it. -/
import Derived.Test.YtghdjkpndhcplaaPlyR
import Derived.Test.YtghdjkpndhcplaaOwned
namespace Go.Proofs.Ytghdjkpndhcplaa
open Go.RowKit
namespace P
/-- May a play begin? -/
def fine (g : G) (z p : Int) : Prop := g.ok = true ∧ (0 ≤ z ∧ z < (g.owner.length : Int)) ∧ (p = 0 ∨ p = 1)
/-- The script that is played. -/
def scr (script : List Int) : List Int := if script.length = 0 then [0] else script
theorem scr_pos (script : List Int) : 0 < (scr script).length := by
  unfold scr
  split
  · exact Nat.zero_lt_one
  · omega
/-- What a play is: its positions ahead and in the round, its winner, the error. -/
def PlayP (g : G) (z p : Int) (moves script A B : List Int) (tp : Int) (c : Nat) : Prop :=
  (¬ fine g z p ∧ A = [] ∧ B = [] ∧ tp = 0 ∧ c = 1) ∨ (fine g z p ∧ 64 < script.length ∧ A = [] ∧ B = [] ∧ tp = 0 ∧ c = 10) ∨
  (fine g z p ∧ script.length ≤ 64 ∧ ((∃ l s i, Way (stepS g p moves (scr script)) (z.toNat, 0) l s ∧ l[i]? = some s ∧ A = (l.take i).map (fun a => (a.1 : Int)) ∧ B = (l.drop i).map (fun a => (a.1 : Int)) ∧ tp = topS g 0 (l.drop i) % 2 ∧ c = 0) ∨
    (∃ l s, Way (stepS g p moves (scr script)) (z.toNat, 0) l s ∧ stepS g p moves (scr script) s = none ∧ A = [] ∧ B = [] ∧ tp = 0 ∧ c = 16)))
theorem PlayP.unique {g : G} {z p : Int} {moves script A B A' B' : List Int} {tp tp' : Int} {c c' : Nat} (h : PlayP g z p moves script A B tp c) (k : PlayP g z p moves script A' B' tp' c') : A = A' ∧ B = B' ∧ tp = tp' ∧ c = c' := by
  rcases h with ⟨hf, rfl, rfl, rfl, rfl⟩ | ⟨hf, hl, rfl, rfl, rfl, rfl⟩ | ⟨hf, hl, h⟩
  · rcases k with ⟨kf, rfl, rfl, rfl, rfl⟩ | ⟨kf, kl, rfl, rfl, rfl, rfl⟩ | ⟨kf, -, -⟩
    · exact ⟨rfl, rfl, rfl, rfl⟩
    · exact absurd kf hf
    · exact absurd kf hf
  · rcases k with ⟨kf, rfl, rfl, rfl, rfl⟩ | ⟨kf, kl, rfl, rfl, rfl, rfl⟩ | ⟨kf, kl, -⟩
    · exact absurd hf kf
    · exact ⟨rfl, rfl, rfl, rfl⟩
    · omega
  · rcases k with ⟨kf, rfl, rfl, rfl, rfl⟩ | ⟨kf, kl, rfl, rfl, rfl, rfl⟩ | ⟨kf, kl, k⟩
    · exact absurd hf kf
    · omega
    · rcases h with ⟨l, s, i, h1, h2, rfl, rfl, rfl, rfl⟩ | ⟨l, s, h1, h2, rfl, rfl, rfl, rfl⟩
      · rcases k with ⟨m, t, j, k1, k2, rfl, rfl, rfl, rfl⟩ | ⟨m, t, k1, k2, rfl, rfl, rfl, rfl⟩
        · obtain ⟨rfl, rfl⟩ := h1.one k1 (.inl (List.mem_of_getElem? h2)) (.inl (List.mem_of_getElem? k2))
          have e : i = j := by
            have hi := (List.getElem?_eq_some_iff.1 h2).1
            have hj := (List.getElem?_eq_some_iff.1 k2).1
            have := (List.getElem?_inj hi h1.nodup).1 (h2.trans k2.symm)
            exact this
          subst e
          exact ⟨rfl, rfl, rfl, rfl⟩
        · exfalso
          obtain ⟨rfl, rfl⟩ := h1.one k1 (.inl (List.mem_of_getElem? h2)) (.inr k2)
          obtain ⟨a, -, ha⟩ := h1.goes h2 (l.length + 1)
          have : seqS (stepS g p moves (scr script)) (z.toNat, 0) (l.length + 1) = none := by
            show (seqS _ _ l.length).bind _ = none
            rw [h1.at_.2]
            exact k2
          rw [this] at ha
          cases ha
      · rcases k with ⟨m, t, j, k1, k2, rfl, rfl, rfl, rfl⟩ | ⟨m, t, k1, k2, rfl, rfl, rfl, rfl⟩
        · exfalso
          obtain ⟨rfl, rfl⟩ := k1.one h1 (.inl (List.mem_of_getElem? k2)) (.inr h2)
          obtain ⟨a, -, ha⟩ := k1.goes k2 (m.length + 1)
          have : seqS (stepS g p moves (scr script)) (z.toNat, 0) (m.length + 1) = none := by
            show (seqS _ _ m.length).bind _ = none
            rw [k1.at_.2]
            exact h2
          rw [this] at ha
          cases ha
        · exact ⟨rfl, rfl, rfl, rfl⟩
end P
namespace W

/-- What a call of Run tells. -/
def RunV (g : P.G) (z p : Int) (moves script : List Int) (lo : Nat) (e : Ending) (w' : World) : Prop :=
  ∃ v1 v2 A B tp c, e = .returned (.tuple #[.agg #[v1, v2, .int .i64 tp], .int .i64 ((c : Nat) : Int)]) ∧ OwnI w' lo v1 A ∧ OwnI w' lo v2 B ∧ Apart [v1, v2] ∧ P.PlayP g z p moves script A B tp c
theorem RunV.bad {g : P.G} {z p : Int} {moves script : List Int} {c : Nat} (h : P.PlayP g z p moves script [] [] 0 c) (lo : Nat) (w' : World) : RunV g z p moves script lo (.returned (.tuple #[.agg #[.slice none 0 0, .slice none 0 0, .int .i64 0], .int .i64 (c : Int)])) w' :=
  ⟨_, _, [], [], 0, c, rfl, OwnI.nil w' lo, OwnI.nil w' lo, Apart.nils 2, h⟩
end W
end Go.Proofs.Ytghdjkpndhcplaa
