/- GameLimits: what it stands on, and its end. -/
import Derived.Test.YtlbikfimfaecnaaDoorShown
import Derived.Test.YtlbikfimfaecnaaDoorLimitsP
import Derived.Test.YtlbikfimfaecnaaDoorBuild
import Derived.Test.YtlbikfimfaecnaaDoorCopy
import Derived.Test.YtlbikfimfaecnaaDoorRights
import Derived.Deep.Cut
import Derived.Deep.CutRange
import Derived.StillTailTactics
namespace Go.Proofs.YtlbikfimfaecnaaDoor
open Go.RowKit
namespace W

theorem Built.push {w w' : World} {lo : Nat} {a b c c' x : Value} {L : List Value} {g : P.G} {l : List Int} (h : Built w lo a b c L g) (hg : w.grownBy w' c.ownBlock) (hlo : lo ≤ w.heap.size) (hx : OwnI w' w.heap.size x l) (hc : w'.ownsRow lo 22 1 c' (g.moves.length + 1) (L ++ [x])) :
    Built w' lo a b c' (L ++ [x]) { g with moves := g.moves ++ [l] } := by
  obtain ⟨ow, pr, ms⟩ := g
  refine ⟨h.own.push hg rfl hlo hx hc, ?_⟩
  have := h.far.add x fun i u hu => by
    cases hb : x.ownBlock with
    | none => exact .inl rfl
    | some q => exact .inr fun e => by have := (own_lt hx q hb).1; have := h.own.low_ i u q hu e.symm; omega
  simpa using this
/-- The game, as far as it is built. -/
structure RelL (w : World) (w0 : World) (qg n : Nat) (i : Value) (wr : World) (k : Nat) (A B C : Value) (L : List Value) : Prop where
  le : k ≤ n
  eq : i = .int .i64 k
  box : Box wr qg 25 #[A, B, C]
  built : Built wr w0.heap.size A B C L (P.lim n k)
  size : w0.heap.size ≤ wr.heap.size
  below : Below w.heap.size w wr
theorem wrap_small {x : Int} (h0 : -9223372036854775808 ≤ x) (h1 : x ≤ 9223372036854775807) : IntKind.i64.wrap x = x := by
  rw [IntKind.wrap_i64]
  omega

theorem own_one (w : World) (lo : Nat) (z : Int) (h : lo ≤ w.heap.size) : OwnI (w.alloc (.cells #[.int .i64 z] 3)) lo (.slice (some ⟨w.heap.size, 0, none⟩) 1 1) [z] :=
  ⟨by simp, .inr ⟨w.heap.size, 1, #[.int .i64 z], rfl, h, heap_alloc_new w _, Nat.le_refl _, by decide, rfl, by simp⟩⟩
/-- A row is put in another one's place. -/
theorem OwnG.setRow {w : World} {lo N q k n : Nat} {a b x : Value} {L : List Value} {g : P.G} {l : List Int} (h : OwnG w lo a b (.slice (some ⟨q, 0, none⟩) n k) L g) (j : Nat) (hx : OwnI w N x l) (hlo : lo ≤ N)
    (hfar : ∀ (i : Nat) (u : Value), (a :: b :: L)[i]? = some u → ∀ p, hold x = some p → hold u ≠ some p) : OwnG (w.setCell ⟨q, j, none⟩ x) lo a b (.slice (some ⟨q, 0, none⟩) n k) (L.set j x) { g with moves := g.moves.set j l } := by
  have hn : n = g.moves.length := by
    obtain ⟨a1, k1, e, -⟩ := own_at h.head
    injection e
  subst hn
  have hs := h.head.stored j x
  have hlen : L.length = g.moves.length := by have h1 : L.length = g.moves.length * 1 := h.head.1; omega
  have ne : ∀ {v : Value} {m : Nat} {zs : List Int}, OwnI w m v zs → OwnI (w.setCell ⟨q, j, none⟩ x) m v zs := fun ho => own_kept ho hs.2 (own_ne ho h.head (by decide))
  refine ⟨ne h.owner, ne h.prio, by simpa using hs.1, fun i l' hl => ?_, ?_⟩
  · have hl : (g.moves.set j l)[i]? = some l' := hl
    rw [List.getElem?_set] at hl ⊢
    by_cases e : j = i
    · rw [if_pos e] at hl ⊢
      rw [hlen]
      split at hl
      · rename_i hlt
        rw [if_pos hlt]
        injection hl with hl
        subst hl
        exact ⟨x, rfl, own_more (ne hx) hlo⟩
      · cases hl
    · rw [if_neg e] at hl ⊢
      obtain ⟨y, hy, ho⟩ := h.rows i l' hl
      exact ⟨y, hy, ne ho⟩
  · have := h.apart.set (j + 2) x hfar
    simpa using this
theorem OwnI.at_ {w : World} {lo q n k : Nat} {zs : List Int} (h : OwnI w lo (.slice (some ⟨q, 0, none⟩) n k) zs) (j : Nat) (hj : j < zs.length) : w.cell? ⟨q, j, none⟩ = some (.int .i64 (zs.getD j 0)) ∧ w.frozen? ⟨q, j, none⟩ = false := by
  obtain ⟨g, k', e, -, -, hc, hf⟩ := own_form h (by omega)
  injection e with e1 e2 e3
  injection e1 with e1
  injection e1 with e1
  subst e1
  refine ⟨hc j _ ?_, hf j⟩
  rw [List.getElem?_map, List.getD_eq_getElem?_getD, List.getElem?_eq_getElem hj]
  rfl
theorem fits_owner {g : P.G} (h : Fits g) (i : Nat) (z : Int) : Fits { g with owner := g.owner.set i z } := ⟨by show (g.owner.set i z).length ≤ _; rw [List.length_set]; exact h.1, h.2.1, h.2.2.1, h.2.2.2⟩
theorem fits_prio {g : P.G} (h : Fits g) (i : Nat) (z : Int) : Fits { g with prio := g.prio.set i z } := ⟨h.1, by show (g.prio.set i z).length ≤ _; rw [List.length_set]; exact h.2.1, h.2.2.1, h.2.2.2⟩
theorem fits_row {g : P.G} (h : Fits g) (i : Nat) (l : List Int) (hl : l.length ≤ 17592186043904) : Fits { g with moves := g.moves.set i l } := ⟨h.1, h.2.1, by show (g.moves.set i l).length ≤ _; rw [List.length_set]; exact h.2.2.1, fun j l' hj => by
  have hj : (g.moves.set i l)[j]? = some l' := hj
  rw [List.getElem?_set] at hj
  split at hj
  · split at hj
    · injection hj with hj
      subst hj
      exact hl
    · cases hj
  · exact h.2.2.2 j l' hj⟩
theorem lim_o (m : Nat) (h : m + 1 ≤ 200) (z : Int) : ∃ a e : Nat, P.G.right { P.lim (m + 1) (m + 1) with owner := (P.lim (m + 1) (m + 1)).owner.set m z } = (a, e) ∧ (if decide (z = 0 ∨ z = 1) = true then a = 0 ∧ e = 0 else a = m ∧ e = 14) := by
  by_cases hz : z = 0 ∨ z = 1
  · exact ⟨0, 0, P.lim_owner_ok (m + 1) m (by omega) h z hz, by rw [if_pos (decide_eq_true hz)]; exact ⟨rfl, rfl⟩⟩
  · exact ⟨m, 14, P.lim_owner (m + 1) m (by omega) h z (by omega), by rw [if_neg (by simpa using hz)]; exact ⟨rfl, rfl⟩⟩
theorem lim_p (m : Nat) (h : m + 1 ≤ 200) (z : Int) : ∃ a e : Nat, P.G.right { P.lim (m + 1) (m + 1) with prio := (P.lim (m + 1) (m + 1)).prio.set ((m + 1) / 2) z } = (a, e) ∧ (if decide (0 ≤ z ∧ z ≤ 7) = true then a = 0 ∧ e = 0 else a = (m + 1) / 2 ∧ e = 15) := by
  by_cases hz : 0 ≤ z ∧ z ≤ 7
  · exact ⟨0, 0, P.lim_prio_ok (m + 1) ((m + 1) / 2) (by omega) h z hz, by rw [if_pos (decide_eq_true hz)]; exact ⟨rfl, rfl⟩⟩
  · exact ⟨(m + 1) / 2, 15, P.lim_prio (m + 1) ((m + 1) / 2) (by omega) h z (by omega), by rw [if_neg (by simpa using hz)]; exact ⟨rfl, rfl⟩⟩
theorem lim_m (m : Nat) (h : m + 1 ≤ 200) (z : Int) : ∃ e : Nat, P.G.right { P.lim (m + 1) (m + 1) with moves := (P.lim (m + 1) (m + 1)).moves.set 0 [z] } = (0, e) ∧ (if decide (0 ≤ z ∧ z < ((m + 1 : Nat) : Int)) = true then e = 0 else e = 16) := by
  have hr := P.lim_moves (m + 1) (by omega) h [z]
  rw [if_neg (by simp)] at hr
  have hd : P.rise ((m + 1 : Nat) : Int) (-1) [z] = decide (0 ≤ z ∧ z < ((m + 1 : Nat) : Int)) := by
    unfold P.rise P.rise
    rw [Bool.and_true, Bool.eq_iff_iff]
    simp only [Bool.and_eq_true, decide_eq_true_eq]
    omega
  rw [hd] at hr
  by_cases hz : decide (0 ≤ z ∧ z < ((m + 1 : Nat) : Int)) = true
  · rw [if_pos hz] at hr
    exact ⟨0, hr, by rw [if_pos hz]⟩
  · rw [if_neg hz] at hr
    exact ⟨16, hr, by rw [if_neg hz]⟩
theorem lim_nil (m : Nat) (h : m + 1 ≤ 200) : P.G.right { P.lim (m + 1) (m + 1) with moves := (P.lim (m + 1) (m + 1)).moves.set 0 [] } = (0, 17) := by
  have hr := P.lim_moves (m + 1) (by omega) h []
  rw [if_pos rfl] at hr
  exact hr
theorem fits_lim (n k : Nat) (h : k ≤ 300) : Fits (P.lim n k) := by
  have hs := P.lim_size n k
  refine ⟨by rw [hs.1]; omega, by rw [hs.2.1]; omega, by rw [hs.2.2]; omega, fun j l hj => ?_⟩
  unfold P.lim at hj
  simp only [List.getElem?_map, Option.map_eq_some_iff] at hj
  obtain ⟨_, _, rfl⟩ := hj
  simp
/-- What is left of a sequence behind its first k statements. -/
def tail : Nat → Code → Code
  | 0, c => c
  | k + 1, .seq _ b => tail k b
  | _, c => c
/-- What stands at the end. -/
structure EndL (w : World) (m qh lo : Nat) (mv : Int) (ja jak jb jbk jc jck : Nat) (L : List Value) (wr : World) : Prop where
  fh : Box wr qh 25 #[.slice (some ⟨ja, 0, none⟩) (m + 1) jak, .slice (some ⟨jb, 0, none⟩) (m + 1) jbk, .slice (some ⟨jc, 0, none⟩) (m + 1) jck]
  own : OwnG wr lo (.slice (some ⟨ja, 0, none⟩) (m + 1) jak) (.slice (some ⟨jb, 0, none⟩) (m + 1) jbk) (.slice (some ⟨jc, 0, none⟩) (m + 1) jck) L { P.lim (m + 1) (m + 1) with moves := (P.lim (m + 1) (m + 1)).moves.set 0 [mv] }
  fw : Below w.heap.size w wr
  lo1 : lo ≤ wr.heap.size
  ne : qh ≠ jc
  le : w.heap.size ≤ jc
end W
end Go.Proofs.YtlbikfimfaecnaaDoor
