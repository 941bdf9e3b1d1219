/- Two games of the call's own whose priorities are written over. -/
import Derived.Test.YtpjmboonaciplaaDoorDecH
import Derived.Test.YtpjmboonaciplaaDoorOwnL
import Derived.Test.YtpjmboonaciplaaDoorGrowR
import Derived.Test.YtpjmboonaciplaaDoorAttM
import Derived.Test.YtpjmboonaciplaaDoorSvA
import Derived.Deep.Cut
import Derived.Lib.Hide
import Derived.Deep.QuietTactic
import Derived.BigQuiet
import Derived.StillTailTactics
namespace Go.Proofs.YtpjmboonaciplaaDoor
open Go.RowKit
namespace W

def pt (g : P.G) (f : Int → Int) (k j : Nat) : Int := if j < k then f (g.prio.getD j 0) else g.prio.getD j 0
def hiG (g : P.G) (f : Int → Int) (n k : Nat) : P.G := ⟨g.owner, P.rowOf n (pt g f k), g.moves⟩
theorem pt_at (g : P.G) (f : Int → Int) (k : Nat) : pt g f (k + 1) k = f (g.prio.getD k 0) := if_pos (Nat.lt_succ_self k)
theorem hiG_start {g : P.G} {f : Int → Int} {n : Nat} (h : g.prio.length = n) : hiG g f n 0 = g := by
  unfold hiG
  have e : P.rowOf n (pt g f 0) = g.prio := by
    rw [← h]
    exact (P.rowOf_congr fun y _ => if_neg (Nat.not_lt_zero y)).trans (P.rowOf_list g.prio)
  rw [e]
theorem hiG_end {g : P.G} {f : Int → Int} {n : Nat} (h : g.prio.length = n) : hiG g f n n = ⟨g.owner, g.prio.map f, g.moves⟩ := by
  unfold hiG
  have e : P.rowOf n (pt g f n) = g.prio.map f := by
    refine List.ext_getElem? fun i => ?_
    rcases Nat.lt_or_ge i n with hi | hi
    · rw [P.rowOf_at _ hi, List.getElem?_map]
      unfold pt
      rw [if_pos hi, List.getD_eq_getElem?_getD, List.getElem?_eq_getElem (by omega)]
      rfl
    · rw [List.getElem?_eq_none (by rw [P.rowOf_len]; exact hi), List.getElem?_eq_none (by rw [List.length_map]; omega)]
  rw [e]
theorem hiG_set (g : P.G) (f : Int → Int) (n k : Nat) {z : Int} (hz : z = f (g.prio.getD k 0)) : { hiG g f n k with prio := (hiG g f n k).prio.set k z } = hiG g f n (k + 1) := by
  show (⟨g.owner, (P.rowOf n (pt g f k)).set k z, g.moves⟩ : P.G) = ⟨g.owner, P.rowOf n (pt g f (k + 1)), g.moves⟩
  rw [P.rowOf_set, P.rowOf_congr (h := pt g f (k + 1)) fun y _ => ?_]
  unfold pt
  by_cases e : y = k
  · rw [if_pos e, if_pos (by omega), hz, e]
  · rw [if_neg e]
    by_cases h : y < k
    · rw [if_pos h, if_pos (by omega)]
    · rw [if_neg h, if_neg (by omega)]
theorem fits_hi {g : P.G} (h : Fits g) (f : Int → Int) (n k : Nat) (hn : n ≤ 200) : Fits (hiG g f n k) := ⟨h.1, by show (P.rowOf n _).length ≤ _; rw [P.rowOf_len]; omega, h.2.2.1, h.2.2.2⟩
/-- The memory ahead of a pass. -/
structure HiS (we : World) (lo1 lo2 hb kb n hk kk : Nat) (A1 C1 A2 C2 : Value) (L1 L2 : List Value) (g : P.G) (f1 f2 : Int → Int) (k1 k2 : Nat) (wr : World) : Prop where
  keep : Rk.Keeps (KX we.heap.size [hb, kb]) we wr
  h : OwnG wr lo1 A1 (.slice (some ⟨hb, 0, none⟩) n hk) C1 L1 (hiG g f1 n k1)
  k : OwnG wr lo2 A2 (.slice (some ⟨kb, 0, none⟩) n kk) C2 L2 (hiG g f2 n k2)
  under : Under lo2 A1 (.slice (some ⟨hb, 0, none⟩) n hk) C1 L1
theorem prio_cell {w : World} {lo b n k : Nat} {A C : Value} {L : List Value} {g : P.G} {f : Nat → Int} (h : OwnG w lo A (.slice (some ⟨b, 0, none⟩) n k) C L ⟨g.owner, P.rowOf n f, g.moves⟩) {j : Nat} (hj : j < n) : w.cell? ⟨b, j, none⟩ = some (.int .i64 (f j)) ∧ w.frozen? ⟨b, j, none⟩ = false := by
  have h1 := h.prio
  unfold OwnI at h1
  rw [P.rowOf_len] at h1
  refine ⟨?_, h1.frozenAt j⟩
  rw [h1.cellAt j (by omega), List.getElem?_map, P.rowOf_at f hj]
  rfl
section
variable {we : World} {lo1 lo2 hb kb n hk kk : Nat} {A1 C1 A2 C2 : Value} {L1 L2 : List Value} {g : P.G} {f1 f2 : Int → Int} {k1 k2 : Nat} {wr w8 : World} {z : Int}
theorem HiS.on (h : HiS we lo1 lo2 hb kb n hk kk A1 C1 A2 C2 L1 L2 g f1 f2 k1 k2 wr) (hg : wr.grownBy w8 none) : HiS we lo1 lo2 hb kb n hk kk A1 C1 A2 C2 L1 L2 g f1 f2 k1 k2 w8 :=
  ⟨h.keep.trans (kx_below_of (below_of_grown hg)), h.h.grown hg, h.k.grown hg, h.under⟩
theorem HiS.low (h : HiS we lo1 lo2 hb kb n hk kk A1 C1 A2 C2 L1 L2 g f1 f2 k1 k2 wr) : hb < lo2 ∧ lo2 ≤ kb := ⟨h.under 1 _ hb rfl rfl, (own_lt h.k.prio kb rfl).1⟩
theorem HiS.putH (h : HiS we lo1 lo2 hb kb n hk kk A1 C1 A2 C2 L1 L2 g f1 f2 k1 k2 w8) (hn : 0 < n) (hz : z = f1 (g.prio.getD k1 0)) : HiS we lo1 lo2 hb kb n hk kk A1 C1 A2 C2 L1 L2 g f1 f2 (k1 + 1) k2 (w8.setCell ⟨hb, k1, none⟩ (.int .i64 z)) :=
  ⟨h.keep.trans (kx_set w8 (.inl (by simp)) k1 _), by rw [← hiG_set g f1 n k1 hz]; exact h.h.setPrio hn k1 z, h.k.below_ h.low.1 k1 _, h.under⟩
theorem HiS.putK (h : HiS we lo1 lo2 hb kb n hk kk A1 C1 A2 C2 L1 L2 g f1 f2 k1 k2 w8) (hn : 0 < n) (hz : z = f2 (g.prio.getD k2 0)) : HiS we lo1 lo2 hb kb n hk kk A1 C1 A2 C2 L1 L2 g f1 f2 k1 (k2 + 1) (w8.setCell ⟨kb, k2, none⟩ (.int .i64 z)) :=
  ⟨h.keep.trans (kx_set w8 (.inl (by simp)) k2 _), h.h.above h.under h.low.2 k2 _, by rw [← hiG_set g f2 n k2 hz]; exact h.k.setPrio hn k2 z, h.under⟩
end
/-- The highest priority so far, two more. -/
def highP (g : P.G) : Nat → Int
  | 0 => 0
  | k + 1 => if highP g k < g.prio.getD k 0 + 2 then g.prio.getD k 0 + 2 else highP g k
theorem highP_bounds {g : P.G} (hr : g.Right) : ∀ k, k ≤ g.owner.length → 0 ≤ highP g k ∧ highP g k ≤ 9
  | 0, _ => by unfold highP; omega
  | k + 1, hk => by
    have h1 := highP_bounds hr k (by omega)
    have h2 := hr.at k (by omega)
    unfold highP
    split <;> omega
theorem highP_past {g : P.G} {z : Int} (hz : 0 ≤ z) : ∀ k, z < highP g k ↔ ∃ i, i < k ∧ z < g.prio.getD i 0 + 2
  | 0 => by
    constructor
    · intro h; unfold highP at h; omega
    · rintro ⟨i, hi, -⟩; omega
  | k + 1 => by
    have ih := highP_past (g := g) hz k
    have e : highP g (k + 1) = if highP g k < g.prio.getD k 0 + 2 then g.prio.getD k 0 + 2 else highP g k := rfl
    rw [e]
    constructor
    · intro h
      by_cases h1 : highP g k < g.prio.getD k 0 + 2
      · rw [if_pos h1] at h; exact ⟨k, by omega, h⟩
      · rw [if_neg h1] at h
        obtain ⟨i, h2, h3⟩ := ih.1 h
        exact ⟨i, by omega, h3⟩
    · rintro ⟨i, h2, h3⟩
      by_cases hi : i = k
      · subst hi
        split <;> omega
      · have := ih.2 ⟨i, by omega, h3⟩
        split <;> omega
end W
end Go.Proofs.YtpjmboonaciplaaDoor
