/- slices.Clone of numbers: a list of the call's own. -/
import Derived.Test.YtghdjkpndhcplaaDoorHep
import Derived.WalkSpells
namespace Go.Proofs.YtghdjkpndhcplaaDoor
open Go.RowKit
namespace W

def Cloned (w : World) (zs : List Int) (e : Ending) (w' : World) : Prop := ∃ v, e = .returned v ∧ OwnI w' w.heap.size v zs ∧ Below w.heap.size w w'
set_option maxRecDepth 100000 in
set_option maxHeartbeats 1000000 in
theorem clone_any (x : Value) (zs : List Int) (w : World) (hx : Ints w x zs) : Calls Tryd.prog 30 #[x] w (Cloned w zs) := by
  have HR := Lib.hid hx.row
  obtain ⟨ao, cap, rfl, hz, hc⟩ := hx
  cases ao with
  | none =>
    have hz0 : zs = [] := hc.resolve_right (fun ⟨b, off, h, _⟩ => by cases h)
    subst hz0
    clear hc
    have hq := fun W : World => Lib.run_eql_slice_nil (P := Tryd.prog) W 22 3 none 0 cap 0 0 Tryd.underlying22
    go_enter Tryd.func30, Tryd.ntmps30
    go_wp2_with fail
    go_ret
    exact ⟨_, rfl, OwnI.nil _ _, Below.refl _ _⟩
  | some ad =>
    have hq := fun W : World => Lib.run_eql_slice_nil (P := Tryd.prog) W 22 3 (some ad) zs.length cap 0 0 Tryd.underlying22
    have HC := Lib.hid hc
    clear hc
    go_enter Tryd.func30, Tryd.ntmps30
    go_wp2_with (at_builtin; refine wpl_append_new elInt rfl (.tmp 5) (.tmp 6) rfl rfl (World.ownsRow_made w #[] 0 (Nat.le_refl _) (by decide) rfl) rfl ?_ (one_ints zs) ?_ ?_ (by simp) ?_)
    · exact HR.out.grown (World.grownBy_alloc _ _ _)
    · simp; omega
    · simp; omega
    intro v' w' hown hg hat
    have HO := Lib.hid hown
    have HG := Lib.hid hg
    clear hown hg hat hq
    go_wp2_with fail
    go_ret
    refine ⟨_, rfl, ?_, below_of_grown ((World.grownBy_alloc _ _ _).trans HG.out)⟩
    unfold OwnI
    simpa using HO.out
end W
end Go.Proofs.YtghdjkpndhcplaaDoor
