/- What Attract answers of the example. Plain facts, no program. -/
import Derived.Test.YtpfponiidppldaaDoorAttE
namespace Go.Proofs.YtpfponiidppldaaDoor
namespace P
def EX12 : G := ⟨[0, 1, 1, 0], [0, 0, 0, 0], [[0, 1], [2], [0, 3], [3]]⟩
theorem ex12_right : EX12.Right := (G.ok_iff EX12).1 (by decide +kernel)
theorem bit_two (x : Nat) : (ofL [2]).getLsbD x = true ↔ x = 2 := by
  rcases Nat.lt_or_ge x 256 with h | h
  · rw [getLsbD_ofL _ _ h, decide_eq_true_eq, List.mem_singleton]; omega
  · rw [BitVec.getLsbD_of_ge _ _ h]
    refine ⟨fun h => (by cases h), fun e => by omega⟩
theorem bit_full4 (x : Nat) : (full 4).getLsbD x = true ↔ x < 4 := by
  rw [getLsbD_full, decide_eq_true_eq]; omega
theorem ex12_att (x : Nat) : (x = 0 ∨ x = 1 ∨ x = 2) ↔ Att EX12 (full 4) 0 (ofL [2]) x := by
  have h2 : Att EX12 (full 4) 0 (ofL [2]) 2 := .base 2 (by decide) ((bit_full4 2).2 (by decide)) ((bit_two 2).2 rfl)
  have h1 : Att EX12 (full 4) 0 (ofL [2]) 1 := .oth 1 (by decide) ((bit_full4 1).2 (by decide)) (by decide) ⟨2, by decide, (bit_full4 2).2 (by decide)⟩ fun m hm _ => by
    have : (m : Int) = 2 := by simpa [EX12] using hm
    obtain rfl : m = 2 := by omega
    exact h2
  have h0 : Att EX12 (full 4) 0 (ofL [2]) 0 := .own 0 1 (by decide) ((bit_full4 0).2 (by decide)) (by decide) (by decide) ((bit_full4 1).2 (by decide)) h1
  refine att_iff (fun x => x = 0 ∨ x = 1 ∨ x = 2) ?_ ?_ ?_ ?_ x
  · rintro i (rfl | rfl | rfl)
    · exact h0
    · exact h1
    · exact h2
  · intro i _ _ h
    exact .inr (.inr ((bit_two i).1 h))
  · intro i m hi _ ho hm _ ha
    have hi4 : i < 4 := hi
    rcases (by omega : i = 0 ∨ i = 1 ∨ i = 2 ∨ i = 3) with rfl | rfl | rfl | rfl
    · exact .inl rfl
    · exact .inr (.inl rfl)
    · exact .inr (.inr rfl)
    · have : (m : Int) = 3 := by simpa [EX12] using hm
      omega
  · intro i hi _ ho _ _
    have hi4 : i < 4 := hi
    rcases (by omega : i = 0 ∨ i = 1 ∨ i = 2 ∨ i = 3) with rfl | rfl | rfl | rfl
    · exact .inl rfl
    · exact .inr (.inl rfl)
    · exact .inr (.inr rfl)
    · exact absurd rfl ho
theorem ex12_set : attOf EX12 (full 4) 0 (ofL [2]) = ofL [0, 1, 2] := by
  rw [attOf_ok ex12_right (.inl rfl)]
  refine set_ext fun x hx => ?_
  rw [attSet_bit ex12_right, ← ex12_att, getLsbD_ofL _ _ hx, decide_eq_true_eq]
  simp only [List.mem_cons, List.not_mem_nil, or_false]
  omega
theorem ex12_moves {m : List Int} (h : Played EX12 (full 4 &&& full (EX12.owner.length : Int)) 0 (ofL [2]) m) : m.length = 4 ∧ m.getD 0 0 = 1 ∧ m.getD 1 0 = -1 := by
  obtain ⟨A, Q, o, v, hr, rfl⟩ := h
  rw [show full 4 &&& full (EX12.owner.length : Int) = full 4 from BitVec.and_self] at hr
  refine ⟨rowOf_len _ _, ?_, ?_⟩
  · have hA := (hr.done ex12_right 0).2 ((ex12_att 0).1 (.inl rfl))
    obtain ⟨k, hk, e⟩ := List.mem_iff_getElem.1 ((hr.bits 0).1 hA)
    obtain ⟨m, l, h1, h2, h3, h4⟩ := hr.leads k 0 (List.getElem?_eq_some_iff.2 ⟨hk, e⟩) (by
      cases e : (ofL [2]).getLsbD 0
      · rfl
      · have := (bit_two 0).1 e; omega) rfl
    have hm : (m : Int) = 0 ∨ (m : Int) = 1 := by simpa [EX12] using h4
    have hv : v 0 = 1 := by
      rcases hm with hm | hm
      · exfalso
        obtain rfl : m = 0 := by omega
        obtain ⟨hl, e2⟩ := List.getElem?_eq_some_iff.1 h2
        exact (List.pairwise_iff_getElem.1 hr.nod) l k hl hk h3 (by rw [e2, e])
      · rw [h1]; exact hm
    rw [List.getD_eq_getElem?_getD, rowOf_at v (show 0 < EX12.owner.length by decide)]
    exact hv
  · rw [List.getD_eq_getElem?_getD, rowOf_at v (show 1 < EX12.owner.length by decide)]
    exact hr.nones 1 (.inr (.inr (by decide)))
end P
end Go.Proofs.YtpfponiidppldaaDoor
