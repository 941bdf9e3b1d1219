/- DecompAlone: what its walks use. -/
import Derived.Test.YtpjmboonaciplaaDoorShown13
import Derived.Test.YtpjmboonaciplaaDoorAloM
import Derived.Test.YtpjmboonaciplaaDoorCls
import Derived.Test.YtpjmboonaciplaaDoorKeep
import Derived.Test.YtpjmboonaciplaaDoorSetN
import Derived.Test.YtpjmboonaciplaaDoorCopy
import Derived.Deep.Cut
import Derived.Lib.Hide
import Derived.Deep.QuietTactic
import Derived.BigQuiet
import Derived.StillTailTactics
namespace Go.Proofs.YtpjmboonaciplaaDoor
open Go.RowKit Go.Sort
namespace W

theorem ROWS.ints {w : World} {lo n : Nat} {g : P.G} {p : Int} {S : BitVec 256} {c : List Int} {r : Value} {b : Nat} (h : ROWS w lo n g p S c r b) : Ints w r (lstI S) := by
  have hl : (lstI S).length = (P.lst S).length := by unfold lstI; rw [List.length_map]
  refine OwnI.ints (lo := lo) ?_ ?_
  · unfold OwnI
    rw [hl]
    exact h.1
  · rw [hl]
    unfold P.lst
    exact Nat.le_trans (List.length_filter_le _ _) (by simp)
theorem lstI_len (S : BitVec 256) : (lstI S).length = (P.lst S).length := by unfold lstI; rw [List.length_map]
theorem lst_short (S : BitVec 256) : (P.lst S).length ≤ 256 := by unfold P.lst; exact Nat.le_trans (List.length_filter_le _ _) (by simp)
theorem ofL_lst (S : BitVec 256) : P.ofL (lstI S) = S := P.set_ext fun x hx => by
  rw [P.getLsbD_ofL _ x hx, decide_eq_true_eq]
  unfold lstI
  rw [List.mem_map]
  constructor
  · rintro ⟨j, h1, h2⟩
    obtain rfl : j = x := by omega
    exact (P.mem_lst S j).1 h1
  · exact fun h => ⟨x, (P.mem_lst S x).2 h, rfl⟩
theorem meets {g : P.G} {ii : Nat} {Q : BitVec 256} : P.ofL (g.moves.getD ii []) &&& Q ≠ 0#256 ↔ ∃ j, P.Step g ii j ∧ P.Bit Q j := by
  have low : ∀ (S : BitVec 256) (j : Nat), S.getLsbD j = true → j < 256 := fun S j h => by
    rcases Nat.lt_or_ge j 256 with h1 | h1
    · exact h1
    · rw [BitVec.getLsbD_of_ge _ _ h1] at h; cases h
  constructor
  · intro h
    obtain ⟨j, hj⟩ := P.bit_some h
    have hj2 : (P.ofL (g.moves.getD ii []) &&& Q).getLsbD j = true := hj
    rw [BitVec.getLsbD_and, Bool.and_eq_true, P.getLsbD_ofL _ j (low _ j hj), decide_eq_true_eq] at hj2
    exact ⟨j, hj2.1, hj2.2⟩
  · rintro ⟨j, h1, h2⟩ h3
    have h4 : (P.ofL (g.moves.getD ii []) &&& Q).getLsbD j = true := by
      rw [BitVec.getLsbD_and, Bool.and_eq_true, P.getLsbD_ofL _ j (low _ j h2), decide_eq_true_eq]
      exact ⟨h1, h2⟩
    rw [h3] at h4
    simp at h4
theorem getD_mem_ {l : List Int} {i : Nat} (hi : i < l.length) : l.getD i 0 ∈ l := by
  rw [List.getD_eq_getElem?_getD, List.getElem?_eq_getElem hi]
  exact List.getElem_mem hi
theorem rise_len_any_ {n : Int} : ∀ {l : List Int} {last : Int}, P.rise n last l = true → -1 ≤ last → last < n → (l.length : Int) + last + 1 ≤ n
  | [], last, _, _, h => by simp; omega
  | x :: l, last, h, h1, h2 => by
    have h0 := P.rise_bounds h x (List.mem_cons_self ..)
    unfold P.rise at h
    simp only [Bool.and_eq_true, decide_eq_true_eq] at h
    have := rise_len_any_ h.2.2 (by omega) h.2.1
    rw [List.length_cons]
    omega
theorem rise_len_ {m : Nat} {l : List Int} (h : P.rise (m : Int) (-1) l = true) (hm : m ≤ 200) : l.length ≤ 200 := by
  have := rise_len_any_ h (by omega) (by omega)
  omega
theorem zero_agg : Value.agg #[.int .u64 0, .int .u64 0, .int .u64 0, .int .u64 0] = Value.agg #[.int .u64 (P.wrd 0#256 0), .int .u64 (P.wrd 0#256 1), .int .u64 (P.wrd 0#256 2), .int .u64 (P.wrd 0#256 3)] := by
  have e : ∀ k, P.wrd 0#256 k = 0 := P.wrd_zero
  rw [e, e, e, e]
theorem has_is {S : BitVec 256} {y : Int} {b : Bool} {W0 : World} {F : FuncId} {args : Array Value} {w : World} (hb : P.has S y = b) (h : Calls Tryd.prog F args w fun e w'' => e = .returned (.bool (P.has S y)) ∧ ∃ p : Regrown, w'' = grow (redrawn W0 p.d) p.os) : Calls Tryd.prog F args w fun e w'' => e = .returned (.bool b) ∧ ∃ p : Regrown, w'' = grow (redrawn W0 p.d) p.os := by
  rw [hb] at h
  exact h
theorem tops_stay {g : P.G} {p : Int} {k : Nat} {Q : BitVec 256} (h : ∀ i, P.Bit Q i ↔ P.TopsTo g p k i) (hn : ¬ P.Tops g p k) (i : Nat) : P.Bit Q i ↔ P.TopsTo g p (k + 1) i := by
  rw [h i]
  refine ⟨fun h => ⟨by have := h.1; omega, h.2⟩, fun h => ⟨?_, h.2⟩⟩
  rcases Nat.lt_or_ge i k with h1 | h1
  · exact h1
  · have e : i = k := by have := h.1; omega
    exact absurd (e ▸ h.2) hn
theorem tops_more {g : P.G} {p : Int} {k : Nat} {Q : BitVec 256} (h : ∀ i, P.Bit Q i ↔ P.TopsTo g p k i) (hk : k < 256) (hn : P.Tops g p k) (i : Nat) : P.Bit (Q ||| P.bit (k : Int)) i ↔ P.TopsTo g p (k + 1) i := by
  rw [P.bit_with Q k i hk, h i]
  constructor
  · rintro (h | rfl)
    · exact ⟨by have := h.1; omega, h.2⟩
    · exact ⟨Nat.lt_succ_self _, hn⟩
  · intro h
    by_cases e : i = k
    · exact .inr e
    · exact .inl ⟨by have := h.1; omega, h.2⟩
theorem off2b {hb q n m hk : Nat} {qw : Nat} (h1 : (Value.slice (some ⟨hb, 0, none⟩) n hk).ownBlock ≠ some q) (h2 : q ≠ qw) (_hm : m = m) : q ∉ [hb, qw] := by
  intro h
  rcases List.mem_cons.1 h with rfl | h
  · exact h1 rfl
  · exact h2 (List.mem_singleton.1 h)
end W
end Go.Proofs.YtpjmboonaciplaaDoor
