/- What a part is, whether there is one or not. -/
import Derived.Test.YtpjmboonaciplaaDoorSub
import Derived.Test.YtpjmboonaciplaaDoorPartF
import Derived.Test.YtpjmboonaciplaaDoorKeep
namespace Go.Proofs.YtpjmboonaciplaaDoor
open Go.RowKit
namespace W
/-- The part, or none; the numbers, or none. -/
def FW (g : P.G) (s : BitVec 256) : P.G := if g.has s then g.part s else .none
def OLW (g : P.G) (s : BitVec 256) : List Int := if g.has s then (g.old s).map fun (i : Nat) => (i : Int) else []
theorem fits_fw {g : P.G} (h : Fits g) (s : BitVec 256) : Fits (FW g s) := by
  unfold FW
  split
  · exact fits_part h s
  · exact fits_none
theorem len_olw (g : P.G) (s : BitVec 256) : (OLW g s).length ≤ 256 := by
  unfold OLW
  split
  · rw [List.length_map]; exact g.old_len s
  · simp
def SubW (F : P.G) (ol : List Int) (ok : Bool) (lo : Nat) (v : Value) (w' : World) : Prop := ∃ a1 k1 b1 k2 c1 k3 x1 k4 L, v = .tuple #[.agg #[.slice a1 F.owner.length k1, .slice b1 F.prio.length k2, .slice c1 F.moves.length k3], .slice x1 ol.length k4, .bool ok] ∧
  OwnG w' lo (.slice a1 F.owner.length k1) (.slice b1 F.prio.length k2) (.slice c1 F.moves.length k3) L F ∧ OwnI w' lo (.slice x1 ol.length k4) ol
theorem SubW.grown {F : P.G} {ol : List Int} {ok : Bool} {lo : Nat} {v : Value} {w w' : World} (h : SubW F ol ok lo v w) (hg : w.grownBy w' none) : SubW F ol ok lo v w' := by
  obtain ⟨a1, k1, b1, k2, c1, k3, x1, k4, L, hv, ho, hi⟩ := h
  exact ⟨a1, k1, b1, k2, c1, k3, x1, k4, L, hv, ho.grown hg, own_grown hi hg⟩
theorem SubW.low {F : P.G} {ol : List Int} {ok : Bool} {lo lo' : Nat} {v : Value} {w : World} (h : SubW F ol ok lo v w) (hl : lo' ≤ lo) : SubW F ol ok lo' v w := by
  obtain ⟨a1, k1, b1, k2, c1, k3, x1, k4, L, hv, ho, hi⟩ := h
  exact ⟨a1, k1, b1, k2, c1, k3, x1, k4, L, hv, ho.low hl, own_more hi hl⟩
theorem SubW.other {F : P.G} {ol : List Int} {ok : Bool} {lo N : Nat} {t : TypeId} {v : Value} {w w' : World} (h : SubW F ol ok lo v w) (hk : Rk.Keeps (KG N t) w w') (h1 : 3 ≠ t) (h2 : 22 ≠ t) : SubW F ol ok lo v w' := by
  obtain ⟨a1, k1, b1, k2, c1, k3, x1, k4, L, hv, ho, hi⟩ := h
  exact ⟨a1, k1, b1, k2, c1, k3, x1, k4, L, hv, ho.other hk h1 h2, own_other hi hk h1⟩
theorem subbed_w {w w' : World} {g : P.G} {s : BitVec 256} {e : Ending} (h : Subbed w g s e w') : ∃ u, e = .returned u ∧ SubW (FW g s) (OLW g s) (g.has s) w.heap.size u w' ∧ Below w.heap.size w w' := by
  unfold Subbed at h
  by_cases hs : g.has s = true
  · rw [if_pos hs] at h
    obtain ⟨a, b, c, L, v, he, ho, hi, hb⟩ := h
    have e1 : FW g s = g.part s := by unfold FW; rw [if_pos hs]
    have e2 : OLW g s = (g.old s).map fun (i : Nat) => (i : Int) := by unfold OLW; rw [if_pos hs]
    rw [e1, e2, hs]
    obtain ⟨a1, k1, b1, k2, c1, k3, rfl, rfl, rfl⟩ := ho.forms
    obtain ⟨x1, k4, rfl, -⟩ := own_at hi
    exact ⟨_, he, ⟨a1, k1, b1, k2, c1, k3, x1, k4, L, rfl, ho, hi⟩, hb⟩
  · rw [if_neg hs] at h
    obtain ⟨he, hb⟩ := h
    have hs' : g.has s = false := by simpa using hs
    have e1 : FW g s = .none := by unfold FW; rw [if_neg hs]
    have e2 : OLW g s = [] := by unfold OLW; rw [if_neg hs]
    rw [e1, e2, hs']
    exact ⟨_, he, ⟨none, 0, none, 0, none, 0, none, 0, [], rfl, OwnG.none_ w' _, OwnI.nil w' _⟩, hb⟩
theorem subw_any (g : P.G) (s : BitVec 256) (v : Value) (w : World) (hv : GameV w v g) (hT : Tab w) : Calls Tryd.prog 26 #[v, .agg #[.int .u64 (P.wrd s 0), .int .u64 (P.wrd s 1), .int .u64 (P.wrd s 2), .int .u64 (P.wrd s 3)]] w
    fun e w' => ∃ u, e = .returned u ∧ SubW (FW g s) (OLW g s) (g.has s) w.heap.size u w' ∧ Below w.heap.size w w' := (sub_any g s v w hv hT).mono fun _ _ h => subbed_w h
end W
end Go.Proofs.YtpjmboonaciplaaDoor
