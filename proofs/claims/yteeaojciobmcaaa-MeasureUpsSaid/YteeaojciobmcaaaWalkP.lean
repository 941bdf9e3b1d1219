/- A depth-first walk: what is met, what comes into the order. Plain. -/
import Derived.Test.YteeaojciobmcaaaMeaR
namespace Go.Proofs.Yteeaojciobmcaaa
namespace P
/-- How many of the first n are not yet met. -/
def unmet (M : Nat → Bool) : Nat → Nat
  | 0 => 0
  | n + 1 => unmet M n + (if M n = true then 0 else 1)
def mark (M : Nat → Bool) (i : Nat) : Nat → Bool := fun y => if y = i then true else M y
theorem mark_self (M : Nat → Bool) (i : Nat) : mark M i i = true := if_pos rfl
theorem unmet_zero {M : Nat → Bool} : ∀ {n i : Nat}, unmet M n = 0 → i < n → M i = true
  | 0, i, _, h => absurd h (Nat.not_lt_zero i)
  | n + 1, i, h, hi => by
    unfold unmet at h
    by_cases hM : M n = true
    · rw [if_pos hM] at h
      by_cases e : i = n
      · rw [e]; exact hM
      · exact unmet_zero (n := n) (by omega) (by omega)
    · rw [if_neg hM] at h
      omega
theorem unmet_mark_out (M : Nat → Bool) (i : Nat) : ∀ n, n ≤ i → unmet (mark M i) n = unmet M n
  | 0, _ => rfl
  | n + 1, h => by
    unfold unmet
    rw [unmet_mark_out M i n (by omega)]
    have : mark M i n = M n := if_neg (by omega)
    rw [this]
theorem unmet_mark {M : Nat → Bool} {i : Nat} (h : M i = false) : ∀ n, i < n → unmet (mark M i) n + 1 = unmet M n
  | 0, hi => absurd hi (Nat.not_lt_zero i)
  | n + 1, hi => by
    unfold unmet
    by_cases e : i = n
    · subst e
      rw [unmet_mark_out M i i (Nat.le_refl _), mark_self, h]
      rfl
    · have := unmet_mark h n (by omega)
      have e2 : mark M i n = M n := if_neg (fun h => e h.symm)
      rw [e2]
      omega
/-- From M on X has come into the order, so that M' is met. -/
structure Ext (n : Nat) (M : Nat → Bool) (X : List Nat) (M' : Nat → Bool) : Prop where
  eq : ∀ y, M' y = true ↔ M y = true ∨ y ∈ X
  nodup : X.Nodup
  fresh : ∀ x ∈ X, x < n ∧ M x = false
  cap : X.length + unmet M' n ≤ unmet M n
theorem Ext.nil (n : Nat) (M : Nat → Bool) : Ext n M [] M := ⟨fun y => by simp, List.nodup_nil, fun _ h => (nomatch h), by simp⟩
theorem Ext.trans {n : Nat} {M M' M'' : Nat → Bool} {X Y : List Nat} (h : Ext n M X M') (k : Ext n M' Y M'') : Ext n M (X ++ Y) M'' where
  eq y := by rw [k.eq, h.eq, List.mem_append, or_assoc]
  nodup := by
    rw [List.nodup_append]
    refine ⟨h.nodup, k.nodup, fun x hx y hy e => ?_⟩
    subst e
    have h1 := (k.fresh x hy).2
    rw [(h.eq x).2 (.inr hx)] at h1
    cases h1
  fresh x hx := by
    rcases List.mem_append.1 hx with hx | hx
    · exact h.fresh x hx
    · refine ⟨(k.fresh x hx).1, ?_⟩
      have h1 := (k.fresh x hx).2
      cases hM : M x
      · rfl
      · rw [(h.eq x).2 (.inl hM)] at h1
        cases h1
  cap := by
    have := h.cap
    have := k.cap
    rw [List.length_append]
    omega
theorem Ext.done {n i : Nat} {M M' : Nat → Bool} {X : List Nat} (hi : i < n) (hM : M i = false) (h : Ext n (mark M i) X M') : Ext n M (X ++ [i]) M' where
  eq y := by
    rw [h.eq, List.mem_append, List.mem_singleton]
    unfold mark
    by_cases e : y = i
    · rw [if_pos e]; simp [e]
    · rw [if_neg e]; simp [e]
  nodup := by
    rw [List.nodup_append]
    refine ⟨h.nodup, by simp, fun x hx y hy e => ?_⟩
    rw [List.mem_singleton] at hy
    rw [e, hy] at hx
    have := (h.fresh i hx).2
    rw [mark_self] at this
    cases this
  fresh x hx := by
    rcases List.mem_append.1 hx with hx | hx
    · have h1 := h.fresh x hx
      refine ⟨h1.1, ?_⟩
      have h2 := h1.2
      unfold mark at h2
      split at h2
      · cases h2
      · exact h2
    · rw [List.mem_singleton] at hx
      rw [hx]
      exact ⟨hi, hM⟩
  cap := by
    have := h.cap
    have := unmet_mark hM n hi
    rw [List.length_append, List.length_singleton]
    omega
theorem unmet_le (M : Nat → Bool) : ∀ n, unmet M n ≤ n
  | 0 => Nat.le_refl _
  | n + 1 => by
    unfold unmet
    have := unmet_le M n
    split <;> omega
end P
end Go.Proofs.Yteeaojciobmcaaa
