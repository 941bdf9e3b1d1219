/- Is a game right: the document's answer. -/
import Derived.Test.YtghdjkpndhcplaaRRight
import Derived.Test.YtghdjkpndhcplaaRight
import Derived.Test.YtghdjkpndhcplaaCopy
import Derived.Deep.Cut
namespace Go.Proofs.Ytghdjkpndhcplaa
open Go.RowKit
namespace W

set_option maxRecDepth 100000 in
set_option maxHeartbeats 1000000 in
theorem is_any (g : P.G) (v : Value) (w : World) (hv : GameV w v g) : Calls Try.prog 14 #[v] w fun e w' => e = .returned (.bool g.ok) ∧ Below w.heap.size w w' := by
  have HV := Lib.hid hv
  obtain ⟨a, b, c, rfl, -⟩ := hv
  have W := Lib.hid (Below.refl w.heap.size w)
  go_enter Try.func14, Try.ntmps14
  go_wp2_with fail
  have bq : Box (w.alloc (.cells #[a, b, c] 25)) w.heap.size 25 #[a, b, c] := Box.new _ _ _
  have hgq := World.grownBy_alloc w (.cells #[a, b, c] 25) none
  have W := Lib.hid (W.out.trans ((below_of_grown hgq).mono W.out.size))
  generalize (w.alloc (.cells #[a, b, c] 25)) = w1 at bq W ⊢
  generalize w.heap.size = q at bq ⊢
  have BQ := Lib.hid bq
  clear bq hgq
  have bb := BQ.out
  have pc0 : w1.cell? ⟨q, 0, none⟩ = some a := bb.cell 0 _ rfl
  have pc1 : w1.cell? ⟨q, 1, none⟩ = some b := bb.cell 1 _ rfl
  have pc2 : w1.cell? ⟨q, 2, none⟩ = some c := bb.cell 2 _ rfl
  clear bb
  go_wp2_with fail
  refine (rright_any g _ _ (HV.out.on W.out)).mono ?_
  rintro e w2 ⟨rfl, hb⟩
  have W := Lib.hid (W.out.trans (hb.mono W.out.size))
  clear hb pc0 pc1 pc2
  have ef : (((g.right.2 : Nat) : Int) == 0) = g.ok := by
    unfold P.G.ok
    rw [Bool.eq_iff_iff, beq_iff_eq, beq_iff_eq]
    omega
  generalize ((g.right.1 : Nat) : Int) = r1
  generalize ((g.right.2 : Nat) : Int) = r2 at ef ⊢
  go_wp2_with fail
  exact bodyPost_ret (v := .bool g.ok) (by simp [results, Try.results14, go_sem]) rfl ⟨rfl, W.out⟩

end W
end Go.Proofs.Ytghdjkpndhcplaa
