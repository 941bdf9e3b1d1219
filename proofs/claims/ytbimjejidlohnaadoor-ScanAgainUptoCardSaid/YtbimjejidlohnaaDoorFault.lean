/- Every text read; what an error tells. -/
import Derived.Test.YtbimjejidlohnaaDoorAs
import Derived.Deep.QuietTactic
import Derived.BigQuiet
namespace Go.Proofs.YtbimjejidlohnaaDoor
open Go.RowKit
namespace W

theorem below_drewN {B : Nat} {a w : World} (h : Below B a w) (n : Nat) : Below B a (w.drewN n) := h.trans ⟨rfl, rfl, rfl, Nat.le_refl _, fun _ _ => rfl⟩
theorem Handle.on {w w' : World} (h : Handle w) (hb : Below w.heap.size w w') : Handle w' := by
  unfold Handle at h ⊢
  have hlt : 0 < w.heap.size := by
    rcases Nat.eq_zero_or_pos w.heap.size with h0 | h'
    · simp [World.cell?, h0] at h
    · exact h'
  rw [hb.cell (p := ⟨0, 0, none⟩) hlt]
  exact h
theorem FaultAt.on {w w' : World} {g k e : Nat} (h : FaultAt w g k e) (hb : Below w.heap.size w w') : FaultAt w' g k e := by
  unfold FaultAt at h ⊢
  rw [hb.block g (lt_of_block h)]
  exact h
set_option maxRecDepth 100000 in
set_option maxHeartbeats 2000000 in
theorem fault_nil (w : World) : Calls Tryd.prog 14 #[.nilIface] w fun e w' => e = .returned (.tuple #[.int .i64 0, .int .i64 0]) ∧ w' = w := by
  go_enter Tryd.func14, Tryd.ntmps14
  go_wp2
  go_ret2
  exact ⟨rfl, rfl⟩
theorem as_fault (e : Addr) (w0 : World) (hg : Handle w0) : Calls Tryd.prog 21 #[.iface 45 (.pointer (some e)), .iface 52 (.pointer (some ⟨w0.heap.size, 0, none⟩))] (w0.alloc (.cells #[.pointer none] 45))
    fun ev w' => ev = .returned (.bool true) ∧ w'.cell? ⟨w0.heap.size, 0, none⟩ = some (.pointer (some e)) ∧ Below w0.heap.size w0 w' := by
  have hb := (Below.refl w0.heap.size w0).alloc (Nat.le_refl _) (.cells #[.pointer none] 45)
  have htA : (w0.alloc (.cells #[.pointer none] 45)).cell? ⟨w0.heap.size, 0, none⟩ = some (.pointer none) := by simp
  have hfA : (w0.alloc (.cells #[.pointer none] 45)).frozen? ⟨w0.heap.size, 0, none⟩ = false := by simp
  have hs := hb.size
  refine (as_hit e _ (.pointer none) _ (hg.on hb) htA hfA).mono ?_
  rintro ev w' ⟨rfl, rfl⟩
  refine ⟨rfl, ?_, ((((hb.alloc (by simp) _).alloc (by simp; omega) _).alloc (by simp; omega) _).alloc (by simp; omega) _).setCell (Nat.le_refl _) _⟩
  refine World.cell?_setCell_same _ _ _ (u := .pointer none) ?_
  have e1 : ∀ (W : World) (o : Obj), w0.heap.size < W.heap.size → (W.alloc o).cell? ⟨w0.heap.size, 0, none⟩ = W.cell? ⟨w0.heap.size, 0, none⟩ := fun W o h => World.cell?_alloc_lt _ _ ⟨w0.heap.size, 0, none⟩ h
  rw [e1 _ _ (by simp; omega), e1 _ _ (by simp; omega), e1 _ _ (by simp; omega), e1 _ _ (by simp), htA]
set_option maxRecDepth 100000 in
set_option maxHeartbeats 2000000 in
theorem fault_at (g k er : Nat) (w : World) (hf : FaultAt w g k er) (hg : Handle w) : Calls Tryd.prog 14 #[.iface 45 (.pointer (some ⟨g, 0, none⟩))] w fun e w' => e = .returned (.tuple #[.int .i64 ((k : Nat) : Int), .int .i64 ((er : Nat) : Int)]) ∧ Below w.heap.size w w' := by
  have HG := Lib.hid hg
  have HF := Lib.hid hf
  clear hg hf
  go_enter Tryd.func14, Tryd.ntmps14
  go_wp2_with (go_at_call 21; refine (as_fault _ _ HG.out).mono ?_; rintro e w' ⟨rfl, hct, hb⟩)
  have hf' := HF.out.on hb
  have h0 : w'.cell? ⟨g, 0, none⟩ = some (.int .i64 ((k : Nat) : Int)) := by rw [cell_of_row w' g 0 _ _ (0, 0) hf']; rfl
  have h1 : w'.cell? ⟨g, 1, none⟩ = some (.int .i64 ((er : Nat) : Int)) := by rw [cell_of_row w' g 1 _ _ (0, 0) hf']; rfl
  have HB := Lib.hid hb
  clear hb hf'
  go_quiet (fail)
  go_wp2_with fail
  go_ret2
  exact ⟨rfl, below_drewN HB.out _⟩
set_option maxRecDepth 100000 in
set_option maxHeartbeats 2000000 in
theorem all_any (b : ByteArray) (hb : b.size ≤ 281474976710656) (w : World) :
    Calls Tryd.prog 12 #[.string b] w (Read w.heap.size (P.scanAll b) w) := by
  by_cases h : b.size ≤ 262144
  · have := all_small b h w
    unfold P.scanAll
    rw [if_neg (by omega)]
    exact this
  · unfold P.scanAll
    rw [if_pos (by omega)]
    have hd : decide (262144 < (b.size : Int)) = true := decide_eq_true (by omega)
    go_enter Tryd.func12, Tryd.ntmps12
    go_wp2_with fail
    go_ret2
    refine ⟨⟨w.heap.size, rfl, Nat.le_refl _, heap_alloc_new w _⟩, (Below.refl _ _).alloc (Nat.le_refl _) _⟩
end W
end Go.Proofs.YtbimjejidlohnaaDoor
