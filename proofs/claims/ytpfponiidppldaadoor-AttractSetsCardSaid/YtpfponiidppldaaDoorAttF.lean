/- The document's rounds, and its test of the moves. Plain facts, no program. -/
import Derived.Test.YtpfponiidppldaaDoorAttR
namespace Go.Proofs.YtpfponiidppldaaDoor
namespace P
/-- Of a position's moves that count, those into a. -/
def hits (g : G) (I : BitVec 256) (a : Nat → Bool) (i : Nat) : List Int := (g.moves.getD i []).filter (fun m => has I m && a m.toNat)
/-- A1's second and third rule. -/
def step (g : G) (I : BitVec 256) (p : Int) (a : Nat → Bool) (i : Nat) : Bool :=
  if g.owner.getD i 0 = p then decide (0 < (hits g I a i).length) else decide (0 < (into g I i).length) && decide ((hits g I a i).length = (into g I i).length)
/-- One round. -/
def next (g : G) (I : BitVec 256) (p : Int) (a : Nat → Bool) (i : Nat) : Bool := a i || (I.getLsbD i && decide (i < g.owner.length) && step g I p a i)
theorem hits_into (g : G) (I : BitVec 256) (a : Nat → Bool) (i : Nat) : hits g I a i = (into g I i).filter (fun m => a m.toNat) := by
  unfold hits into
  rw [List.filter_filter]
  apply List.filter_congr
  intro m _
  rw [Bool.and_comm]
theorem step_mine {g : G} (hr : g.Right) {I : BitVec 256} {p : Int} {a : Nat → Bool} {i : Nat} (hi : i < g.owner.length) (ho : g.owner.getD i 0 = p) : step g I p a i = true ↔ ∃ m : Nat, (m : Int) ∈ g.moves.getD i [] ∧ I.getLsbD m = true ∧ a m = true := by
  unfold step
  rw [if_pos ho, decide_eq_true_eq, hits_into]
  constructor
  · intro h
    obtain ⟨m, hm⟩ := List.exists_mem_of_length_pos h
    obtain ⟨h1, h2⟩ := List.mem_filter.1 hm
    obtain ⟨k, rfl, -, h3, h4⟩ := (mem_into hr I i hi m).1 h1
    rw [Int.toNat_natCast] at h2
    exact ⟨k, h3, h4, h2⟩
  · rintro ⟨m, h1, h2, h3⟩
    refine List.length_pos_of_mem (a := (m : Int)) (List.mem_filter.2 ⟨?_, by rw [Int.toNat_natCast]; exact h3⟩)
    unfold into
    rw [List.mem_filter, nat_has]
    exact ⟨h1, h2⟩
theorem step_his {g : G} (hr : g.Right) {I : BitVec 256} {p : Int} {a : Nat → Bool} {i : Nat} (hi : i < g.owner.length) (ho : g.owner.getD i 0 ≠ p) : step g I p a i = true ↔ (∃ m : Nat, (m : Int) ∈ g.moves.getD i [] ∧ I.getLsbD m = true) ∧ ∀ m : Nat, (m : Int) ∈ g.moves.getD i [] → I.getLsbD m = true → a m = true := by
  unfold step
  rw [if_neg ho, Bool.and_eq_true, decide_eq_true_eq, decide_eq_true_eq, hits_into, List.length_filter_eq_length_iff]
  have hin : ∀ m : Nat, (m : Int) ∈ g.moves.getD i [] → I.getLsbD m = true → (m : Int) ∈ into g I i := fun m h1 h2 => by
    unfold into
    rw [List.mem_filter, nat_has]
    exact ⟨h1, h2⟩
  constructor
  · rintro ⟨h1, h2⟩
    obtain ⟨m, hm⟩ := List.exists_mem_of_length_pos h1
    obtain ⟨k, rfl, -, h3, h4⟩ := (mem_into hr I i hi m).1 hm
    refine ⟨⟨k, h3, h4⟩, fun m h5 h6 => ?_⟩
    have := h2 (m : Int) (hin m h5 h6)
    rwa [Int.toNat_natCast] at this
  · rintro ⟨⟨k, h3, h4⟩, h2⟩
    refine ⟨List.length_pos_of_mem (hin k h3 h4), fun m hm => ?_⟩
    obtain ⟨k, rfl, -, h5, h6⟩ := (mem_into hr I i hi m).1 hm
    rw [Int.toNat_natCast]
    exact h2 k h5 h6
/-- No round brings in what A1 doesn't. -/
theorem next_sub {g : G} (hr : g.Right) {I To : BitVec 256} {p : Int} {a : Nat → Bool} (ha : ∀ i, a i = true → Att g I p To i) (i : Nat) (h : next g I p a i = true) : Att g I p To i := by
  unfold next at h
  simp only [Bool.or_eq_true, Bool.and_eq_true, decide_eq_true_eq] at h
  rcases h with h | ⟨⟨h1, h2⟩, h3⟩
  · exact ha i h
  · by_cases ho : g.owner.getD i 0 = p
    · obtain ⟨m, h4, h5, h6⟩ := (step_mine hr h2 ho).1 h3
      exact .own i m h2 h1 ho h4 h5 (ha m h6)
    · obtain ⟨h4, h5⟩ := (step_his hr h2 ho).1 h3
      exact .oth i h2 h1 ho h4 fun m h6 h7 => ha m (h5 m h6 h7)
/-- Where a round brings in nothing, all are in. -/
theorem next_done {g : G} (hr : g.Right) {I To : BitVec 256} {p : Int} {a : Nat → Bool} (ha : ∀ i, a i = true → Att g I p To i) (hb : ∀ i, i < g.owner.length → I.getLsbD i = true → To.getLsbD i = true → a i = true)
    (hs : ∀ i, i < g.owner.length → next g I p a i = a i) (i : Nat) : a i = true ↔ Att g I p To i := by
  have key : ∀ i, i < g.owner.length → I.getLsbD i = true → step g I p a i = true → a i = true := fun i h1 h2 h3 => by
    rw [← hs i h1]
    unfold next
    rw [h2, h3, decide_eq_true h1]
    simp
  refine att_iff (fun i => a i = true) ha hb ?_ ?_ i
  · intro i m h1 h2 h3 h4 h5 h6
    exact key i h1 h2 ((step_mine hr h1 h3).2 ⟨m, h4, h5, h6⟩)
  · intro i h1 h2 h3 h4 h5
    exact key i h1 h2 ((step_his hr h1 h3).2 ⟨h4, h5⟩)
/-- Whoever follows the moves comes into to: what is closed under the document's rule for that holds all positions. -/
theorem Round.forced {g : G} {I : BitVec 256} {p : Int} {To A : BitVec 256} {Q : List Nat} {o v : Nat → Int} {i j : Nat} (h : Round g I p To A Q o v i j) (d : Nat → Bool) (h0 : ∀ x, x < g.owner.length → A.getLsbD x = false ∨ To.getLsbD x = true → d x = true)
    (hd : ∀ x, x < g.owner.length → (∀ m : Nat, (m : Int) ∈ g.moves.getD x [] → I.getLsbD m = true → (g.owner.getD x 0 ≠ p ∨ (m : Int) = v x) → d m = true) → d x = true) : ∀ x, x < g.owner.length → d x = true := by
  have key : ∀ (k x : Nat), Q[k]? = some x → d x = true := by
    intro k
    induction k using Nat.strongRecOn with
    | ind k ih =>
      intro x hx
      have hb := (h.sub x (List.mem_of_getElem? hx)).bound
      cases ht : To.getLsbD x
      · refine hd x hb.1 fun m h1 h2 h3 => ?_
        by_cases ho : g.owner.getD x 0 = p
        · obtain ⟨m', l, h4, h5, h6, -⟩ := h.leads k x hx ht ho
          have h7 := h3.resolve_left (fun e => e ho)
          obtain rfl : m = m' := by omega
          exact ih l h6 m h5
        · obtain ⟨l, h5, h6⟩ := h.alls k x hx ht ho m h1 h2
          exact ih l h6 m h5
      · exact h0 x hb.1 (.inr ht)
  intro x hx
  cases e : A.getLsbD x
  · exact h0 x hx (.inl e)
  · obtain ⟨k, hk, e2⟩ := List.mem_iff_getElem.1 ((h.bits x).1 e)
    exact key k x (List.getElem?_eq_some_iff.2 ⟨hk, e2⟩)
end P
end Go.Proofs.YtpfponiidppldaaDoor
