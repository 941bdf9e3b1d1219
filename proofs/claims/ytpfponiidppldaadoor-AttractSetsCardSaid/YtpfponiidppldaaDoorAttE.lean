/- Rows of numbers as functions; what Attract hands back. Plain facts, no program. -/
import Derived.Test.YtpfponiidppldaaDoorAttR
import Derived.Test.YtpfponiidppldaaDoorAttS
import Derived.Test.YtpfponiidppldaaDoorAttC
import Derived.Test.YtpfponiidppldaaDoorPartsQ
namespace Go.Proofs.YtpfponiidppldaaDoor
namespace P
def rowOf (n : Nat) (f : Nat → Int) : List Int := (List.range n).map f
theorem rowOf_len (n : Nat) (f : Nat → Int) : (rowOf n f).length = n := by unfold rowOf; simp
theorem rowOf_at {n : Nat} (f : Nat → Int) {j : Nat} (h : j < n) : (rowOf n f)[j]? = some (f j) := by unfold rowOf; simp [h]
theorem rowOf_set {n : Nat} (f : Nat → Int) (j : Nat) (z : Int) : (rowOf n f).set j z = rowOf n (fun y => if y = j then z else f y) := by
  apply List.ext_getElem?
  intro i
  rw [List.getElem?_set]
  unfold rowOf
  simp only [List.getElem?_map, List.length_map, List.length_range]
  by_cases e : j = i
  · subst e
    rw [if_pos rfl]
    by_cases h : j < n
    · rw [if_pos h, List.getElem?_range h]
      simp
    · rw [if_neg h, List.getElem?_eq_none (by simpa using h)]
      rfl
  · rw [if_neg e]
    by_cases h : i < n
    · rw [List.getElem?_range h]
      simp [Ne.symm e]
    · rw [List.getElem?_eq_none (by simpa using h)]
      rfl
theorem rowOf_list (l : List Int) : rowOf l.length (fun y => l.getD y 0) = l := map_getD l 0
theorem rowOf_congr {n : Nat} {f h : Nat → Int} (e : ∀ y, y < n → f y = h y) : rowOf n f = rowOf n h := by
  unfold rowOf
  apply List.map_congr_left
  intro y hy
  exact e y (List.mem_range.1 hy)
/-- No more than n numbers lie below n. -/
theorem nodup_short : ∀ (n : Nat) (l : List Nat), l.Nodup → (∀ x ∈ l, x < n) → l.length ≤ n
  | 0, l, _, h => by
    cases l with
    | nil => exact Nat.le_refl _
    | cons a l => exact absurd (h a (by simp)) (Nat.not_lt_zero a)
  | n + 1, l, hn, h => by
    have h1 := nodup_short n (l.filter (fun x => x != n)) (List.Pairwise.filter _ hn) (fun x hx => by
      obtain ⟨h2, h3⟩ := List.mem_filter.1 hx
      have := h x h2
      have : x ≠ n := by simpa using h3
      omega)
    have h2 : l.length ≤ (l.filter (fun x => x != n)).length + 1 := by
      clear h1 h
      induction l with
      | nil => simp
      | cons a l ih =>
        obtain ⟨h3, h4⟩ := List.nodup_cons.1 hn
        by_cases e : a = n
        · subst e
          have : l.filter (fun x => x != a) = l := by
            rw [List.filter_eq_self]
            intro x hx
            have : x ≠ a := fun e => h3 (e ▸ hx)
            simpa using this
          rw [List.filter_cons_of_neg (by simp), this]
          simp
        · rw [List.filter_cons_of_pos (by simpa using e)]
          have := ih h4
          simp only [List.length_cons]
          omega
    omega
/-- The moves that Attract tells. -/
def Played (g : G) (I : BitVec 256) (p : Int) (To : BitVec 256) (m : List Int) : Prop := ∃ A Q o v, Round g I p To A Q o v Q.length 0 ∧ m = rowOf g.owner.length v
theorem Round.short {g : G} {I : BitVec 256} {p : Int} {To A : BitVec 256} {Q : List Nat} {o v : Nat → Int} {i j : Nat} (h : Round g I p To A Q o v i j) : Q.length ≤ g.owner.length := nodup_short _ Q h.nod fun x hx => (h.sub x hx).bound.1
theorem Round.set_is {g : G} (hr : g.Right) {I : BitVec 256} {p : Int} (hp : p = 0 ∨ p = 1) {To A : BitVec 256} {Q : List Nat} {o v : Nat → Int} (h : Round g (I &&& full g.owner.length) p To A Q o v Q.length 0) : A = attOf g I p To := by
  rw [← attOf_full, attOf_ok hr hp]
  refine set_ext fun x _ => ?_
  rw [attSet_bit hr]
  exact h.done hr x
theorem mem_lst (s : BitVec 256) (x : Nat) : x ∈ lst s ↔ s.getLsbD x = true := by
  unfold lst
  rw [List.mem_filter, List.mem_range]
  refine ⟨fun h => h.2, fun h => ⟨?_, h⟩⟩
  rcases Nat.lt_or_ge x 256 with h1 | h1
  · exact h1
  · rw [BitVec.getLsbD_of_ge s x h1] at h; cases h
theorem Round.begin {g : G} (hr : g.Right) (I : BitVec 256) (p : Int) (To : BitVec 256) : Round g (I &&& full g.owner.length) p To (To &&& (I &&& full g.owner.length)) (lst (To &&& (I &&& full g.owner.length)))
    (fun y => (counts g (I &&& full g.owner.length) (pre2 (I &&& full g.owner.length) g.owner.length)).2.getD y 0) (fun _ => -1) 0 0 := by
  refine Round.start ?_ (fun x => (mem_lst _ x).symm) (fun x => ?_) (fun x h1 h2 => (counts_is hr _).2 x h1 h2) (fun _ => rfl)
  · unfold lst
    exact List.Pairwise.filter _ List.nodup_range
  · rw [mem_lst]
    simp only [BitVec.getLsbD_and, Bool.and_eq_true, getLsbD_full, decide_eq_true_eq]
    constructor
    · rintro ⟨h1, h2, h3⟩
      exact ⟨by omega, ⟨h2, h3⟩, h1⟩
    · rintro ⟨h1, h2, h3⟩
      exact ⟨h3, h2⟩
theorem lst_full (g : G) (hm : g.owner.length ≤ 200) (I : BitVec 256) : lst (I &&& full g.owner.length) = pre2 (I &&& full g.owner.length) g.owner.length := by
  have h := old_pre2 g (I &&& full g.owner.length) (by omega)
  unfold G.old at h
  rw [BitVec.and_assoc, BitVec.and_self] at h
  exact h
theorem bit_or (A : BitVec 256) (x y : Nat) (hx : x < 256) : (A ||| bit (x : Int)).getLsbD y = (A.getLsbD y || y == x) := by
  rcases Nat.lt_or_ge y 256 with hy | hy
  · have h1 : (ofL [(x : Int)]).getLsbD y = decide ((y : Int) ∈ [(x : Int)]) := getLsbD_ofL _ _ hy
    have h2 : ofL [(x : Int)] = bit (x : Int) := by
      have := ofL_snoc [] (x : Int)
      rw [List.nil_append, ofL_nil] at this
      rw [this]
      simp
    rw [h2] at h1
    rw [BitVec.getLsbD_or, h1]
    congr 1
    rw [Bool.eq_iff_iff, decide_eq_true_eq, beq_iff_eq, List.mem_singleton]
    omega
  · rw [BitVec.getLsbD_of_ge _ _ hy, BitVec.getLsbD_of_ge _ _ hy]
    symm
    simp
    omega
end P
end Go.Proofs.YtpfponiidppldaaDoor
