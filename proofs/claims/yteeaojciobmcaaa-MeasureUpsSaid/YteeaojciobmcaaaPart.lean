/- The part of a game: plain facts, no program. -/
import Derived.Test.YteeaojciobmcaaaTurn
import Derived.Test.YteeaojciobmcaaaLst
namespace Go.Proofs.Yteeaojciobmcaaa
namespace P
/-- The positions of a set that a game has, rising. -/
def G.old (g : G) (s : BitVec 256) : List Nat := lst (s &&& full (g.owner.length : Int))
/-- The moves of a position that stay in the set, by the new numbers. -/
def renum (old : List Nat) (s : BitVec 256) (l : List Int) : List Int := (l.filter (has s)).map fun m => ((old.idxOf m.toNat : Nat) : Int)
/-- The game on the first k of some positions. -/
def G.partTo (g : G) (s : BitVec 256) (old : List Nat) (k : Nat) : G :=
  ⟨(old.take k).map fun i => g.owner.getD i 0, (old.take k).map fun i => g.prio.getD i 0, (old.take k).map fun i => renum old s (g.moves.getD i [])⟩
def G.part (g : G) (s : BitVec 256) : G := g.partTo s (g.old s) (g.old s).length
/-- Is there such a game? -/
def G.has (g : G) (s : BitVec 256) : Bool := g.ok && (!(g.old s).isEmpty && (g.old s).all fun i => !((g.moves.getD i []).filter (P.has s)).isEmpty)
theorem G.partTo_zero (g : G) (s : BitVec 256) (old : List Nat) : g.partTo s old 0 = .none := rfl
theorem G.partTo_succ (g : G) (s : BitVec 256) (old : List Nat) (k : Nat) (h : k < old.length) :
    g.partTo s old (k + 1) = ⟨(g.partTo s old k).owner ++ [g.owner.getD old[k] 0], (g.partTo s old k).prio ++ [g.prio.getD old[k] 0], (g.partTo s old k).moves ++ [renum old s (g.moves.getD old[k] [])]⟩ := by
  unfold G.partTo
  rw [List.take_succ_eq_append_getElem h]
  simp only [List.map_append, List.map_cons, List.map_nil]
theorem G.partTo_len (g : G) (s : BitVec 256) (old : List Nat) (k : Nat) (h : k ≤ old.length) : (g.partTo s old k).owner.length = k ∧ (g.partTo s old k).prio.length = k ∧ (g.partTo s old k).moves.length = k := by
  unfold G.partTo
  simp
  omega
theorem old_lt (g : G) (s : BitVec 256) : ∀ i ∈ g.old s, i < g.owner.length ∧ i < 256 := by
  intro i hi
  unfold G.old lst at hi
  simp only [List.mem_filter, List.mem_range, BitVec.getLsbD_and, Bool.and_eq_true, getLsbD_full, decide_eq_true_eq] at hi
  omega
theorem old_has (g : G) (s : BitVec 256) : ∀ i ∈ g.old s, s.getLsbD i = true := by
  intro i hi
  unfold G.old lst at hi
  simp only [List.mem_filter, BitVec.getLsbD_and, Bool.and_eq_true] at hi
  exact hi.2.1
theorem mem_old (g : G) (s : BitVec 256) (i : Nat) (h : i < g.owner.length) (h2 : i < 256) (hs : s.getLsbD i = true) : i ∈ g.old s := by
  unfold G.old lst
  simp only [List.mem_filter, List.mem_range, BitVec.getLsbD_and, Bool.and_eq_true, getLsbD_full, decide_eq_true_eq]
  exact ⟨h2, hs, h2, by omega⟩
theorem old_nodup (g : G) (s : BitVec 256) : (g.old s).Nodup := by
  unfold G.old lst
  exact List.Pairwise.filter _ List.nodup_range
theorem renum_nil (old : List Nat) (s : BitVec 256) : renum old s [] = [] := rfl
theorem renum_snoc (old : List Nat) (s : BitVec 256) (l : List Int) (m : Int) : renum old s (l ++ [m]) = if has s m then renum old s l ++ [((old.idxOf m.toNat : Nat) : Int)] else renum old s l := by
  unfold renum
  rw [List.filter_append, List.map_append]
  by_cases h : has s m = true
  · rw [if_pos h]; simp [h]
  · rw [if_neg h]; simp [h]
theorem renum_length (old : List Nat) (s : BitVec 256) (l : List Int) : (renum old s l).length ≤ l.length := by
  unfold renum
  rw [List.length_map]
  exact List.length_filter_le _ _
/-- Numbers that rise from 0 on below n are at most n. -/
theorem rise_len_any {n : Int} : ∀ {l : List Int} {last : Int}, rise n last l = true → -1 ≤ last → last < n → (l.length : Int) + last + 1 ≤ n
  | [], last, _, _, h => by simp; omega
  | x :: l, last, h, h1, h2 => by
    unfold rise at h
    simp only [Bool.and_eq_true, decide_eq_true_eq] at h
    have := rise_len_any h.2.2 (by omega) h.2.1
    simp only [List.length_cons]
    omega
theorem rise_len {m : Nat} {l : List Int} (h : rise (m : Int) (-1) l = true) (hm : m ≤ 200) : l.length ≤ 200 := by
  have := rise_len_any h (by omega) (by omega)
  omega
theorem renum_empty {old : List Nat} {s : BitVec 256} {l : List Int} (h : (renum old s l).length = 0) : l.filter (has s) = [] := by
  unfold renum at h
  rw [List.length_map] at h
  exact List.eq_nil_of_length_eq_zero h
theorem has_false {g : G} {s : BitVec 256} {i : Nat} (hi : i ∈ g.old s) (h : (g.moves.getD i []).filter (has s) = []) : g.has s = false := by
  unfold G.has
  rw [Bool.and_eq_false_iff]
  right
  rw [Bool.and_eq_false_iff]
  right
  rw [List.all_eq_false]
  exact ⟨i, hi, by rw [h]; simp⟩
theorem has_true {g : G} {s : BitVec 256} (hok : g.ok = true) (h0 : 0 < (g.old s).length) (h : ∀ i ∈ g.old s, (g.moves.getD i []).filter (has s) ≠ []) : g.has s = true := by
  unfold G.has
  rw [hok, Bool.true_and, Bool.and_eq_true]
  refine ⟨by cases hl : g.old s with | nil => rw [hl] at h0; simp at h0 | cons _ _ => rfl, List.all_eq_true.2 fun i hi => ?_⟩
  cases hf : (g.moves.getD i []).filter (has s) with
  | nil => exact absurd hf (h i hi)
  | cons _ _ => rfl
theorem idx_nodup {l : List Nat} (h : l.Nodup) (k : Nat) (hk : k < l.length) : l.idxOf l[k] = k := h.idxOf_getElem k hk
end P
end Go.Proofs.Yteeaojciobmcaaa
