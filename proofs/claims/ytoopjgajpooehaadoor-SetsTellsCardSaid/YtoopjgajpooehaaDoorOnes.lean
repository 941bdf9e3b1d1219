/- How many bits of a word are set, and how many zeros end it: the walks of the library's two functions. -/
import Derived.Test.YtoopjgajpooehaaDoorLeaf
import Derived.Test.YtoopjgajpooehaaDoorPop
import Derived.Shelf.Spec.TrailingZeros
namespace Go.Proofs.YtoopjgajpooehaaDoor
open Go.RowKit Go.Sort
namespace W
set_option maxHeartbeats 1000000 in
theorem ones_walk (x a1 a2 a3 a4 a5 a6 : Int) (w : World)
    (h1 : IntKind.u64.wrap (bits .and .u64 (x / 2) 6148914691236517205 + bits .and .u64 x 6148914691236517205) = a1)
    (h2 : IntKind.u64.wrap (bits .and .u64 (a1 / 4) 3689348814741910323 + bits .and .u64 a1 3689348814741910323) = a2)
    (h3 : bits .and .u64 (IntKind.u64.wrap (a2 / 16 + a2)) 1085102592571150095 = a3)
    (h4 : IntKind.u64.wrap (a3 + a3 / 256) = a4) (h5 : IntKind.u64.wrap (a4 + a4 / 65536) = a5) (h6 : IntKind.u64.wrap (a5 + a5 / 4294967296) = a6) :
    Calls Tryd.prog 42 #[.int .u64 x] w fun e w' => e = .returned (.int .i64 (bits .and .i64 (wrap64 a6) 127)) ∧ w = w' := by
  go_enter Tryd.func42, Tryd.ntmps42
  go_wp2
  go_ret
  exact ⟨rfl, rfl⟩

theorem ones_any (x : Nat) (hx : x < 18446744073709551616) (w : World) :
    Calls Tryd.prog 42 #[.int .u64 (x : Int)] w fun e w' => e = .returned (.int .i64 ((P.pop 64 x : Nat) : Int)) ∧ w = w' := by
  obtain ⟨a1, a2, a3, a4, a5, a6, h1, h2, h3, h4, h5, h6, h7, h8, h9⟩ := P.chain x hx
  have e : bits .and .i64 (wrap64 a6) 127 = ((P.pop 64 x : Nat) : Int) := by
    have hw : wrap64 a6 = a6 := by unfold wrap64; omega
    rw [hw, P.and127 a6 h7 h8, h9]
  refine (ones_walk x a1 a2 a3 a4 a5 a6 w h1 h2 h3 h4 h5 h6).mono fun e' w' ⟨he, hw⟩ => ⟨?_, hw⟩
  rw [he, e]

set_option maxHeartbeats 1000000 in
theorem zeros_core (x k idx : Nat) (w : World) (hx0 : ((x : Int) == 0) = false)
    (key : IntKind.u64.wrap (bits BinOp.and IntKind.u64 (x : Int) (IntKind.u64.wrap (-(x : Int))) * 285870213051353865) / 288230376151711744 = (idx : Int))
    (hi : idx < 64) (hk : k < 64) (hcell : w.cell? ⟨0, idx, none⟩ = some (.int .u8 k)) :
    Calls Tryd.prog 40 #[.int .u64 x] w fun e w' => e = .returned (.int .i64 k) ∧ w = w' := by
  go_enter Tryd.func40, Tryd.ntmps40
  go_wp2_with (simp only [key])
  go_ret
  exact ⟨rfl, rfl⟩

/-- The library's table lies where it lies. -/
def Tab (w : World) : Prop := TabAt 0 Lib.deBruijn64tab w

theorem zeros_any (x : Nat) (hx : x < 18446744073709551616) (hx0 : x ≠ 0) (w : World) (hT : Tab w) :
    Calls Tryd.prog 40 #[.int .u64 x] w fun e w' => e = .returned (.int .i64 (Lib.ctz 64 x)) ∧ w = w' := by
  obtain ⟨hlow, hk⟩ := Lib.lowest_bit 64 x hx0 hx
  obtain ⟨hi, htab⟩ := Lib.deBruijn64_at _ hk
  have hcell := hT _ hi
  rw [htab] at hcell
  exact zeros_core x _ _ w (by simp; omega) (tz64_key x _ hx hx0 hlow) hi hk hcell

/-- The table lies there behind whatever is laid. -/
theorem Tab.below {B : Nat} {w w' : World} (h : Tab w) (hb : Below B w w') (hB : 0 < B) : Tab w' := fun j hj => by
  rw [hb.cell (p := ⟨0, j, none⟩) hB]; exact h j hj
theorem Tab.size {w : World} (h : Tab w) : 0 < w.heap.size := block_lt_of_cell (h 0 (by decide))
theorem Tab.on {w w' : World} (h : Tab w) (hb : Below w.heap.size w w') : Tab w' := h.below hb h.size
end W
end Go.Proofs.YtoopjgajpooehaaDoor
