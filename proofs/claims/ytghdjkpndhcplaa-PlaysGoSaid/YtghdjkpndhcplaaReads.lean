/- Lists and games that are read in a walk. -/
import Derived.Test.YtghdjkpndhcplaaMoves
namespace Go.Proofs.Ytghdjkpndhcplaa
open Go.RowKit
namespace W
theorem Ints.open_ {w : World} {v : Value} {zs : List Int} {n : Nat} (h : Ints w v zs) (hn : zs.length = n) (h0 : 0 < n) :
    ∃ b off cap, v = .slice (some ⟨b, off, none⟩) n cap ∧ ∀ w', Below w.heap.size w w' → ∀ j, j < n → w'.cell? ⟨b, off + j, none⟩ = some (.int .i64 (zs.getD j 0)) := by
  obtain ⟨ao, cap, rfl, h1, h2⟩ := h
  rw [hn] at h2 ⊢
  rcases h2 with h2 | ⟨b, off, rfl, h4, h5⟩
  · rw [h2] at hn; simp at hn; omega
  · exact ⟨b, off, cap, rfl, fun w' hb j hj => by rw [hb.cell (p := ⟨b, off + j, none⟩) h4]; exact h5 j hj⟩
theorem Grid.open_ {w : World} {v : Value} {ls : List (List Int)} {n : Nat} (h : Grid w v ls) (hn : ls.length = n) (h0 : 0 < n) :
    ∃ b off cap, v = .slice (some ⟨b, off, none⟩) n cap ∧ ∀ w', Below w.heap.size w w' → ∀ j, j < n → ∃ x, w'.cell? ⟨b, off + j, none⟩ = some x ∧ Ints w' x (ls.getD j []) := by
  obtain ⟨ao, cap, rfl, h1, h2⟩ := h
  rw [hn] at h2 ⊢
  rcases h2 with h2 | ⟨b, off, rfl, h4, h5⟩
  · rw [h2] at hn; simp at hn; omega
  · refine ⟨b, off, cap, rfl, fun w' hb j hj => ?_⟩
    obtain ⟨x, h6, h7⟩ := h5 j hj
    exact ⟨x, by rw [hb.cell (p := ⟨b, off + j, none⟩) h4]; exact h6, h7.on hb⟩
/-- A game whose lists are as long as it has positions, read at a later world. -/
theorem GameV.open_ {w : World} {v : Value} {g : P.G} {n : Nat} (h : GameV w v g) (h1 : g.owner.length = n) (h2 : g.prio.length = n) (h3 : g.moves.length = n) (h0 : 0 < n) :
    ∃ ba oa ka bb ob kb bc oc kc, v = .agg #[.slice (some ⟨ba, oa, none⟩) n ka, .slice (some ⟨bb, ob, none⟩) n kb, .slice (some ⟨bc, oc, none⟩) n kc] ∧
      (∀ w', Below w.heap.size w w' → ∀ j, j < n → w'.cell? ⟨ba, oa + j, none⟩ = some (.int .i64 (g.owner.getD j 0))) ∧
      (∀ w', Below w.heap.size w w' → ∀ j, j < n → w'.cell? ⟨bb, ob + j, none⟩ = some (.int .i64 (g.prio.getD j 0))) ∧
      (∀ w', Below w.heap.size w w' → ∀ j, j < n → ∃ x, w'.cell? ⟨bc, oc + j, none⟩ = some x ∧ Ints w' x (g.moves.getD j [])) := by
  obtain ⟨a, b, c, rfl, ha, hb, hc⟩ := h
  obtain ⟨ba, oa, ka, rfl, ca⟩ := ha.open_ h1 h0
  obtain ⟨bb, ob, kb, rfl, cb⟩ := hb.open_ h2 h0
  obtain ⟨bc, oc, kc, rfl, cc⟩ := hc.open_ h3 h0
  exact ⟨ba, oa, ka, bb, ob, kb, bc, oc, kc, rfl, ca, cb, cc⟩
end W
end Go.Proofs.Ytghdjkpndhcplaa
