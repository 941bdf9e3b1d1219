/- A part is no greater than what may come in. -/
import Derived.Test.YtpjmboonaciplaaDoorHlv
import Derived.Test.YtpjmboonaciplaaDoorHep
namespace Go.Proofs.YtpjmboonaciplaaDoor
open Go.RowKit
namespace W
theorem fits_part {g : P.G} (h : Fits g) (s : BitVec 256) : Fits (g.part s) := by
  have hl := g.part_len s
  have h2 := g.old_len s
  refine ⟨by rw [hl.1]; omega, by rw [hl.2.1]; omega, by rw [hl.2.2]; omega, fun j l hj => ?_⟩
  have hjl : j < (g.part s).moves.length := (List.getElem?_eq_some_iff.1 hj).1
  have e : (g.part s).moves.getD j [] = l := by rw [List.getD_eq_getElem?_getD, hj]; rfl
  rw [P.G.part_moves g s j (by rw [← hl.2.2]; exact hjl)] at e
  subst e
  refine Nat.le_trans (P.renum_length _ _ _) ?_
  generalize (g.old s).getD j 0 = i
  rw [List.getD_eq_getElem?_getD]
  cases hm : g.moves[i]? with
  | none => simp
  | some m => exact h.2.2.2 i m hm
theorem fits_none : Fits P.G.none := ⟨by decide, by decide, by decide, fun j l h => by simp [P.G.none] at h⟩
theorem len_old {g : P.G} {s : BitVec 256} : ((g.old s).map fun (i : Nat) => (i : Int)).length ≤ 17592186043904 := by
  rw [List.length_map]
  have := g.old_len s
  omega
theorem fits_dual' {g : P.G} (h : Fits g) : Fits g.dual := by
  have h1 : ∀ z, Fits (g.turned z) := fun z => ⟨by simpa [P.G.turned] using h.1, by simpa [P.G.turned] using h.2.1, h.2.2.1, h.2.2.2⟩
  unfold P.G.dual
  split
  · exact fits_none
  · split
    · split
      · exact fits_none
      · exact h1 _
    · exact h1 _
end W
end Go.Proofs.YtpjmboonaciplaaDoor
