/- PlaysGo: each step of a play is a move. Plain. -/
import Derived.Test.YtghdjkpndhcplaaRunP
import Derived.Test.YtghdjkpndhcplaaTellP
namespace Go.Proofs.Ytghdjkpndhcplaa
open Go.RowKit
namespace W
theorem chain_at {f : Nat × Nat → Option (Nat × Nat)} : ∀ {l : List (Nat × Nat)} {s : Nat × Nat} (k : Nat), P.Chain f l s → k < l.length → f (l.getD k (0, 0)) = some ((l ++ [s]).getD (k + 1) (0, 0))
  | [_], _, 0, h, _ => h
  | [_], _, k + 1, _, hk => absurd hk (by simp)
  | a :: b :: l, _, 0, h, _ => h.1
  | a :: b :: l, s, k + 1, h, hk => by
    have := chain_at (l := b :: l) k h.2 (by simpa using hk)
    simpa using this
/-- What PlaysGo asks of a play that is told. -/
structure Goes17 (g : P.G) (z p : Int) (moves A B : List Int) (tp : Int) : Prop where
  right : g.Right
  pos : 0 < B.length
  first : (A ++ B).getD 0 0 = z
  short : (A ++ B).length ≤ 64 * g.owner.length
  ins : ∀ k, k < (A ++ B).length → ∃ x : Nat, (A ++ B).getD k 0 = (x : Int) ∧ x < g.owner.length
  step : ∀ k, k < (A ++ B).length → ∀ x : Nat, (A ++ B).getD k 0 = (x : Int) → (A ++ B ++ [B.getD 0 0]).getD (k + 1) 0 ∈ g.moves.getD x [] ∧ (g.owner.getD x 0 = p → x < moves.length ∧ moves.getD x 0 = (A ++ B ++ [B.getD 0 0]).getD (k + 1) 0)
  top : tp = topZ g 0 B % 2
theorem goes17 {g : P.G} {z p : Int} {moves script A B : List Int} {tp : Int} (h : P.PlayP g z p moves script A B tp 0) : Goes17 g z p moves A B tp := by
  rcases h with ⟨-, -, -, -, h⟩ | ⟨-, -, -, -, -, h⟩ | ⟨hf, hl, ⟨l, s, i, hw, hi, rfl, rfl, rfl, -⟩ | ⟨l, s, -, -, -, -, -, h⟩⟩
  · cases h
  · cases h
  · have hr := (P.G.ok_iff g).1 hf.1
    have hs := P.scr_pos script
    have hs64 : (P.scr script).length ≤ 64 := by
      unfold P.scr
      split
      · decide
      · exact hl
    have h0 := hf.2.1
    have hil := (List.getElem?_eq_some_iff.1 hi).1
    have hhead : l.head? = some (z.toNat, 0) := by
      have h1 := hw.head
      cases l with
      | nil => simp at hil
      | cons x l => simpa using h1
    have hall := (P.Chain.all (fun a => a.1 < g.owner.length ∧ a.2 < (P.scr script).length) (fun a b ha h => (P.stepS_in hr rfl hs ha h).1) hw.chain (fun a ha => by
      rw [hhead] at ha
      injection ha with ha
      rw [← ha]
      exact ⟨by show z.toNat < _; omega, hs⟩) (fun e => by
      rw [e] at hil
      simp at hil)).1
    have e1 : (l.take i).map (fun a => (a.1 : Int)) ++ (l.drop i).map (fun a => (a.1 : Int)) = l.map fun a => (a.1 : Int) := by rw [← List.map_append, List.take_append_drop]
    have eg : ∀ k, k < l.length → (l.map fun a => (a.1 : Int)).getD k 0 = ((l.getD k (0, 0)).1 : Int) := fun k hk => by
      rw [List.getD_eq_getElem?_getD, List.getElem?_map, List.getD_eq_getElem?_getD, List.getElem?_eq_getElem hk]
      rfl
    have em : ∀ k, k < l.length → l.getD k (0, 0) ∈ l := fun k hk => by
      rw [List.getD_eq_getElem?_getD, List.getElem?_eq_getElem hk]
      exact List.getElem_mem hk
    have eb : ((l.drop i).map fun a => (a.1 : Int)).getD 0 0 = (s.1 : Int) := by
      rw [List.getD_eq_getElem?_getD, List.getElem?_map, List.getElem?_drop, Nat.add_zero, hi]
      rfl
    have en : ∀ k, k < l.length → ((l.map fun a => (a.1 : Int)) ++ [(s.1 : Int)]).getD (k + 1) 0 = (((l ++ [s]).getD (k + 1) (0, 0)).1 : Int) := fun k hk => by
      rw [show (l.map fun a => (a.1 : Int)) ++ [(s.1 : Int)] = (l ++ [s]).map fun a => (a.1 : Int) by simp, List.getD_eq_getElem?_getD, List.getElem?_map, List.getD_eq_getElem?_getD, List.getElem?_eq_getElem (by simp; omega : k + 1 < (l ++ [s]).length)]
      rfl
    refine ⟨hr, by rw [List.length_map, List.length_drop]; omega, ?_, ?_, ?_, ?_, ?_⟩
    · rw [e1, eg 0 (by omega)]
      cases l with
      | nil => simp at hil
      | cons x l =>
        have : x = (z.toNat, 0) := by simpa using hhead
        subst this
        show ((z.toNat : Nat) : Int) = z
        omega
    · rw [e1, List.length_map]
      have h1 := hw.short hall
      have h2 := Nat.mul_le_mul_left g.owner.length hs64
      rw [Nat.mul_comm 64]
      omega
    · rw [e1]
      intro k hk
      rw [List.length_map] at hk
      exact ⟨_, eg k hk, (hall _ (em k hk)).1⟩
    · rw [e1, eb]
      intro k hk x hx
      rw [List.length_map] at hk
      rw [eg k hk] at hx
      have hx' : (l.getD k (0, 0)).1 = x := by omega
      have hst := P.stepS_in hr rfl hs (hall _ (em k hk)) (chain_at k hw.chain hk)
      rw [hx'] at hst
      rw [en k hk]
      refine ⟨hst.2.1, fun ho => ?_⟩
      have h1 := hst.2.2 ho
      by_cases hxm : x < moves.length
      · rw [P.ownMove, if_pos hxm] at h1
        exact ⟨hxm, h1.symm⟩
      · rw [P.ownMove, if_neg hxm] at h1
        omega
    · rw [topZ_map]
  · cases h
/-- An error tells nothing. -/
theorem none17 {g : P.G} {z p : Int} {moves script A B : List Int} {tp : Int} {c : Nat} (h : P.PlayP g z p moves script A B tp c) (hc : c ≠ 0) : A = [] ∧ B = [] := by
  rcases h with ⟨-, h1, h2, -, -⟩ | ⟨-, -, h1, h2, -, -⟩ | ⟨-, -, ⟨l, s, i, -, -, -, -, -, h⟩ | ⟨l, s, -, -, h1, h2, -, -⟩⟩
  · exact ⟨h1, h2⟩
  · exact ⟨h1, h2⟩
  · exact absurd h hc
  · exact ⟨h1, h2⟩
end W
end Go.Proofs.Ytghdjkpndhcplaa
