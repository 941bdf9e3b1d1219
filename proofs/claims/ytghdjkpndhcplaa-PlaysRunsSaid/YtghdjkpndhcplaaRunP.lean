/- What Run tells. Plain, and as the program has it. -/
import Derived.Test.YtghdjkpndhcplaaPlyR
import Derived.Test.YtghdjkpndhcplaaOwned
namespace Go.Proofs.Ytghdjkpndhcplaa
open Go.RowKit
namespace P
/-- May a play begin? -/
def fine (g : G) (z p : Int) : Prop := g.ok = true ∧ (0 ≤ z ∧ z < (g.owner.length : Int)) ∧ (p = 0 ∨ p = 1)
/-- The script that is played. -/
def scr (script : List Int) : List Int := if script.length = 0 then [0] else script
theorem scr_pos (script : List Int) : 0 < (scr script).length := by
  unfold scr
  split
  · exact Nat.zero_lt_one
  · omega
/-- What a play is: its positions ahead and in the round, its winner, the error. -/
def PlayP (g : G) (z p : Int) (moves script A B : List Int) (tp : Int) (c : Nat) : Prop :=
  (¬ fine g z p ∧ A = [] ∧ B = [] ∧ tp = 0 ∧ c = 1) ∨ (fine g z p ∧ 64 < script.length ∧ A = [] ∧ B = [] ∧ tp = 0 ∧ c = 10) ∨
  (fine g z p ∧ script.length ≤ 64 ∧ ((∃ l s i, Way (stepS g p moves (scr script)) (z.toNat, 0) l s ∧ l[i]? = some s ∧ A = (l.take i).map (fun a => (a.1 : Int)) ∧ B = (l.drop i).map (fun a => (a.1 : Int)) ∧ tp = topS g 0 (l.drop i) % 2 ∧ c = 0) ∨
    (∃ l s, Way (stepS g p moves (scr script)) (z.toNat, 0) l s ∧ stepS g p moves (scr script) s = none ∧ A = [] ∧ B = [] ∧ tp = 0 ∧ c = 16)))
theorem PlayP.unique {g : G} {z p : Int} {moves script A B A' B' : List Int} {tp tp' : Int} {c c' : Nat} (h : PlayP g z p moves script A B tp c) (k : PlayP g z p moves script A' B' tp' c') : A = A' ∧ B = B' ∧ tp = tp' ∧ c = c' := by
  rcases h with ⟨hf, rfl, rfl, rfl, rfl⟩ | ⟨hf, hl, rfl, rfl, rfl, rfl⟩ | ⟨hf, hl, h⟩
  · rcases k with ⟨kf, rfl, rfl, rfl, rfl⟩ | ⟨kf, kl, rfl, rfl, rfl, rfl⟩ | ⟨kf, -, -⟩
    · exact ⟨rfl, rfl, rfl, rfl⟩
    · exact absurd kf hf
    · exact absurd kf hf
  · rcases k with ⟨kf, rfl, rfl, rfl, rfl⟩ | ⟨kf, kl, rfl, rfl, rfl, rfl⟩ | ⟨kf, kl, -⟩
    · exact absurd hf kf
    · exact ⟨rfl, rfl, rfl, rfl⟩
    · omega
  · rcases k with ⟨kf, rfl, rfl, rfl, rfl⟩ | ⟨kf, kl, rfl, rfl, rfl, rfl⟩ | ⟨kf, kl, k⟩
    · exact absurd hf kf
    · omega
    · rcases h with ⟨l, s, i, h1, h2, rfl, rfl, rfl, rfl⟩ | ⟨l, s, h1, h2, rfl, rfl, rfl, rfl⟩
      · rcases k with ⟨m, t, j, k1, k2, rfl, rfl, rfl, rfl⟩ | ⟨m, t, k1, k2, rfl, rfl, rfl, rfl⟩
        · obtain ⟨rfl, rfl⟩ := h1.one k1 (.inl (List.mem_of_getElem? h2)) (.inl (List.mem_of_getElem? k2))
          have e : i = j := by
            have hi := (List.getElem?_eq_some_iff.1 h2).1
            have hj := (List.getElem?_eq_some_iff.1 k2).1
            have := (List.getElem?_inj hi h1.nodup).1 (h2.trans k2.symm)
            exact this
          subst e
          exact ⟨rfl, rfl, rfl, rfl⟩
        · exfalso
          obtain ⟨rfl, rfl⟩ := h1.one k1 (.inl (List.mem_of_getElem? h2)) (.inr k2)
          obtain ⟨a, -, ha⟩ := h1.goes h2 (l.length + 1)
          have : seqS (stepS g p moves (scr script)) (z.toNat, 0) (l.length + 1) = none := by
            show (seqS _ _ l.length).bind _ = none
            rw [h1.at_.2]
            exact k2
          rw [this] at ha
          cases ha
      · rcases k with ⟨m, t, j, k1, k2, rfl, rfl, rfl, rfl⟩ | ⟨m, t, k1, k2, rfl, rfl, rfl, rfl⟩
        · exfalso
          obtain ⟨rfl, rfl⟩ := k1.one h1 (.inl (List.mem_of_getElem? k2)) (.inr h2)
          obtain ⟨a, -, ha⟩ := k1.goes k2 (m.length + 1)
          have : seqS (stepS g p moves (scr script)) (z.toNat, 0) (m.length + 1) = none := by
            show (seqS _ _ m.length).bind _ = none
            rw [k1.at_.2]
            exact h2
          rw [this] at ha
          cases ha
        · exact ⟨rfl, rfl, rfl, rfl⟩
end P
namespace W

/-- What a call of Run tells. -/
def RunV (g : P.G) (z p : Int) (moves script : List Int) (lo : Nat) (e : Ending) (w' : World) : Prop :=
  ∃ v1 v2 A B tp c, e = .returned (.tuple #[.agg #[v1, v2, .int .i64 tp], .int .i64 ((c : Nat) : Int)]) ∧ OwnI w' lo v1 A ∧ OwnI w' lo v2 B ∧ Apart [v1, v2] ∧ P.PlayP g z p moves script A B tp c
theorem RunV.bad {g : P.G} {z p : Int} {moves script : List Int} {c : Nat} (h : P.PlayP g z p moves script [] [] 0 c) (lo : Nat) (w' : World) : RunV g z p moves script lo (.returned (.tuple #[.agg #[.slice none 0 0, .slice none 0 0, .int .i64 0], .int .i64 (c : Int)])) w' :=
  ⟨_, _, [], [], 0, c, rfl, OwnI.nil w' lo, OwnI.nil w' lo, Apart.nils 2, h⟩
theorem play_len {g : P.G} {z p : Int} {moves script A B : List Int} {tp : Int} {c : Nat} (h : P.PlayP g z p moves script A B tp c) : A.length ≤ 12800 ∧ B.length ≤ 12800 := by
  rcases h with ⟨-, rfl, rfl, -⟩ | ⟨-, -, rfl, rfl, -⟩ | ⟨hf, hl, ⟨l, s, i, hw, hi, rfl, rfl, -⟩ | ⟨l, s, -, -, rfl, rfl, -⟩⟩
  · exact ⟨Nat.zero_le _, Nat.zero_le _⟩
  · exact ⟨Nat.zero_le _, Nat.zero_le _⟩
  · have hr := (P.G.ok_iff g).1 hf.1
    have hs := P.scr_pos script
    have hs64 : (P.scr script).length ≤ 64 := by
      unfold P.scr
      split
      · decide
      · exact hl
    have h0 := hf.2.1
    have hall := (P.Chain.all (fun a => a.1 < g.owner.length ∧ a.2 < (P.scr script).length) (fun a b ha h => (P.stepS_in hr rfl hs ha h).1) hw.chain (fun a ha => by
      have h1 := hw.head
      cases l with
      | nil => cases ha
      | cons x l =>
        have e1 : x = a := by simpa using ha
        have e2 : x = (z.toNat, 0) := by simpa using h1
        rw [← e1, e2]
        exact ⟨by omega, hs⟩) (fun e => by
      rw [e] at hi
      simp at hi)).1
    have h1 := hw.short hall
    have h2 : l.length ≤ 12800 := Nat.le_trans h1 (Nat.mul_le_mul hr.many hs64)
    simp only [List.length_map, List.length_take, List.length_drop]
    omega
  · exact ⟨Nat.zero_le _, Nat.zero_le _⟩
/-- What Run gives, as a value. -/
def RunT (g : P.G) (z p : Int) (moves script : List Int) (lo : Nat) (v : Value) (w' : World) : Prop :=
  ∃ v1 v2 A B tp c, v = .tuple #[.agg #[v1, v2, .int .i64 tp], .int .i64 ((c : Nat) : Int)] ∧ OwnI w' lo v1 A ∧ OwnI w' lo v2 B ∧ Apart [v1, v2] ∧ P.PlayP g z p moves script A B tp c
theorem RunV.val {g : P.G} {z p : Int} {moves script : List Int} {lo : Nat} {e : Ending} {w' : World} (h : RunV g z p moves script lo e w') : ∃ v, e = .returned v ∧ RunT g z p moves script lo v w' := by
  obtain ⟨v1, v2, A, B, tp, c, rfl, h⟩ := h
  exact ⟨_, rfl, v1, v2, A, B, tp, c, rfl, h⟩
def tupAt17 (v : Value) (i : Nat) : Value := match v with
  | .tuple vs => vs.getD i undef
  | _ => undef
end W
end Go.Proofs.Ytghdjkpndhcplaa
