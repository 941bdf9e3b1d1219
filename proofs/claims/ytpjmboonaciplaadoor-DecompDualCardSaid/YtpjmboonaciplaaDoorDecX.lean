/- The example at the head of each of stage 13's statements, and what Solve's answer says: the regions are the ones. Plain. -/
import Derived.Test.YtpjmboonaciplaaDoorDecP
namespace Go.Proofs.YtpjmboonaciplaaDoor
namespace P
theorem Ap.solved {g : G} {n : Nat} {I X Y : BitVec 256} {c c1 : List Int} (hI : ∀ i, Bit I i ↔ i < n) (h : Ap g 0 I X Y c c1) : Solved g (· < n) (Bit X) (Bit Y) := by
  have e : (1 : Int) - 0 = 1 := by decide
  have h2 := h.his
  rw [e] at h2
  exact ⟨_, _, h.mine.iff hI fun _ => Iff.rfl, h2.iff hI fun _ => Iff.rfl, fun i hi => h.all i ((hI i).2 hi)⟩
def EX13 : G := ⟨[0, 1], [0, 1], [[0, 1], [0, 1]]⟩
theorem ex13_right : EX13.Right := (G.ok_iff EX13).1 (by decide +kernel)
theorem ex13_solved : Solved EX13 (· < 2) (fun i => i = 0) (fun i => i = 1) := by
  refine ⟨fun _ => 0, fun _ => 1, ⟨?_, ?_, ?_, ?_⟩, ⟨?_, ?_, ?_, ?_⟩, ?_⟩
  · rintro i rfl; decide
  · rintro i rfl _; exact ⟨0, rfl, by decide, rfl⟩
  · rintro i rfl h; exact absurd (by decide) h
  · rintro i rfl h; exact absurd (by decide) h
  · rintro i rfl; decide
  · rintro i rfl _; exact ⟨1, rfl, by decide, rfl⟩
  · rintro i rfl h; exact absurd (by decide) h
  · rintro i rfl h; exact absurd (by decide) h
  · intro i hi
    show i = 0 ∨ i = 1
    have : i < 2 := hi
    omega
theorem lst_one (k : Nat) {X : BitVec 256} (h : ∀ i, Bit X i ↔ i = k) : lst X = [k] := by
  have h1 : ∀ x, x ∈ lst X ↔ x = k := fun x => by rw [mem_lst]; exact h x
  have h2 : (lst X).Nodup := by unfold lst; exact List.Pairwise.filter _ List.nodup_range
  match hl : lst X, h1, h2 with
  | [], h1, _ => exact absurd ((h1 k).2 rfl) (by simp)
  | [x], h1, _ => rw [(h1 x).1 (by simp)]
  | x :: y :: l, h1, h2 =>
    have hx := (h1 x).1 (by simp)
    have hy := (h1 y).1 (by simp)
    rw [hx, hy] at h2
    simp at h2
theorem ex13_is {X Y : BitVec 256} {c c1 : List Int} (h : Ap EX13 0 (full 2) X Y c c1) : lst X = [0] ∧ lst Y = [1] ∧ Bit X 0 ∧ Bit Y 1 ∧ c1.getD 0 (-1) = 0 ∧ c1.getD 1 (-1) = 1 := by
  have hb : ∀ i, Bit (full 2) i ↔ i < 2 := fun i => by
    unfold Bit
    rcases Nat.lt_or_ge i 256 with hi | hi
    · rw [getLsbD_full, decide_eq_true_eq]
      omega
    · rw [BitVec.getLsbD_of_ge _ _ hi]
      constructor
      · intro h; cases h
      · intro h; omega
  have hs := h.solved hb
  have hu := fun i => hs.unique 2 (fun i hi => hi) (fun i hi => by
    have : i = 0 ∨ i = 1 := by have : i < 2 := hi; omega
    rcases this with rfl | rfl
    · left; rfl
    · right; rfl) ex13_solved i
  have hX : ∀ i, Bit X i ↔ i = 0 := fun i => (hu i).1
  have hY : ∀ i, Bit Y i ↔ i = 1 := fun i => (hu i).2
  have hx0 : Bit X 0 := (hX 0).2 rfl
  have hy1 : Bit Y 1 := (hY 1).2 rfl
  refine ⟨lst_one 0 hX, lst_one 1 hY, hx0, hy1, ?_, ?_⟩
  · obtain ⟨j, h1, -, h3⟩ := h.mine.own 0 hx0 rfl
    have := (hX j).1 h3
    omega
  · obtain ⟨j, h1, -, h3⟩ := h.his.own 1 hy1 rfl
    have := (hY j).1 h3
    omega
end P
end Go.Proofs.YtpjmboonaciplaaDoor
