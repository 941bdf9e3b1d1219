/- What Solve's solver keeps in memory. -/
import Derived.Test.YtpjmboonaciplaaDoorDecP
import Derived.Test.YtpjmboonaciplaaDoorGrowR
import Derived.Test.YtpjmboonaciplaaDoorHep
import Derived.Test.YtpjmboonaciplaaDoorAttM
import Derived.Deep.Cut
import Derived.Lib.Hide
import Derived.Deep.QuietTactic
import Derived.BigQuiet
import Derived.StillTailTactics
namespace Go.Proofs.YtpjmboonaciplaaDoor
open Go.RowKit
namespace W

/-- The solver in memory: its game, the moves that are chosen, how deep it went. -/
structure Sl (w0 w : World) (qs pc n kq : Nat) (va vb vc : Value) (c : List Int) (d : Int) : Prop where
  box : Box w qs 59 #[va, vb, vc, .slice (some ⟨pc, 0, none⟩) n kq, .int .i64 d]
  row : w.ownsRow w0.heap.size 3 1 (.slice (some ⟨pc, 0, none⟩) n kq) n (c.map (Value.int .i64))
  low : Below w0.heap.size w0 w
  lo : w0.heap.size ≤ qs
section
variable {w0 w w' : World} {qs pc n kq : Nat} {va vb vc : Value} {c : List Int} {d : Int}
theorem Sl.len (h : Sl w0 w qs pc n kq va vb vc c d) : c.length = n := by have := h.row.1; rw [List.length_map] at this; omega
theorem Sl.ne (h : Sl w0 w qs pc n kq va vb vc c d) : qs ≠ pc := fun e => own_box h.row h.box (by decide) (by rw [e]; rfl)
theorem Sl.plo (h : Sl w0 w qs pc n kq va vb vc c d) : w0.heap.size ≤ pc ∧ pc < w.heap.size := own_lt h.row pc rfl
theorem Sl.on (h : Sl w0 w qs pc n kq va vb vc c d) (hb : Below w.heap.size w w') : Sl w0 w' qs pc n kq va vb vc c d :=
  ⟨h.box.keep (grown_of_below hb none), own_grown h.row (grown_of_below hb none), h.low.trans (hb.mono h.low.size), h.lo⟩
theorem Sl.set (h : Sl w0 w qs pc n kq va vb vc c d) (j : Nat) (z : Int) : Sl w0 (w.setCell ⟨pc, j, none⟩ (.int .i64 z)) qs pc n kq va vb vc (c.set j z) d :=
  ⟨h.box.far (p := ⟨pc, j, none⟩) h.ne _, by have := (h.row.stored j (.int .i64 z)).1; rw [List.map_set]; exact this, h.low.setCell (p := ⟨pc, j, none⟩) h.plo.1 _, h.lo⟩
theorem Sl.deep (h : Sl w0 w qs pc n kq va vb vc c d) (z : Int) : Sl w0 (w.setCell ⟨qs, 4, none⟩ (.int .i64 z)) qs pc n kq va vb vc c z :=
  ⟨h.box.set 4 (.int .i64 z), own_kept h.row (grown_set w ⟨qs, 4, none⟩ _) (.inr fun e => by injection e with e; exact h.ne e.symm), h.low.setCell (p := ⟨qs, 4, none⟩) h.lo _, h.lo⟩
/-- Another block is written. -/
theorem Sl.far (h : Sl w0 w qs pc n kq va vb vc c d) {q : Nat} (h1 : qs ≠ q) (h2 : pc ≠ q) (h3 : w0.heap.size ≤ q) (j : Nat) (u : Value) : Sl w0 (w.setCell ⟨q, j, none⟩ u) qs pc n kq va vb vc c d :=
  ⟨h.box.far (p := ⟨q, j, none⟩) h1 _, own_kept h.row (grown_set w ⟨q, j, none⟩ _) (.inr fun e => by injection e with e; exact h2 e), h.low.setCell (p := ⟨q, j, none⟩) h3 _, h.lo⟩
theorem Sl.cellc (h : Sl w0 w qs pc n kq va vb vc c d) {j : Nat} (hj : j < n) : w.cell? ⟨pc, j, none⟩ = some (.int .i64 (c.getD j (-1))) ∧ w.frozen? ⟨pc, j, none⟩ = false := by
  refine ⟨?_, h.row.frozenAt j⟩
  have hl := h.len
  rw [h.row.cellAt j (by omega), List.getElem?_map, List.getD_eq_getElem?_getD, List.getElem?_eq_getElem (by omega)]
  rfl
/-- What the solver's own calls may turn: its struct and its row. -/
def SlK (qs pc : Nat) (w w' : World) : Prop := Rk.Keeps (KX w.heap.size [qs, pc]) w w'
theorem SlK.refl (qs pc : Nat) (w : World) : SlK qs pc w w := Rk.Keeps.refl _ _
theorem SlK.trans {w1 w2 w3 : World} (h : SlK qs pc w1 w2) (k : SlK qs pc w2 w3) : SlK qs pc w1 w3 := Rk.Keeps.trans h (kx_more k h.size fun _ hx => .inl hx)
theorem SlK.of (hb : Below w.heap.size w w') : SlK qs pc w w' := kx_below_of hb
theorem SlK.box (h : SlK qs pc w w') {b : Nat} {t : TypeId} {cs : Array Value} (hb : Box w b t cs) (h1 : b ≠ qs) (h2 : b ≠ pc) : Box w' b t cs := kx_box h hb hb.lt (by simp [h1, h2])
theorem SlK.set {q : Nat} (hq : q = qs ∨ q = pc) (j : Nat) (u : Value) : SlK qs pc w (w.setCell ⟨q, j, none⟩ u) := kx_set w (.inl (by rcases hq with rfl | rfl <;> simp)) j u
/-- What is new may be written, too. -/
theorem SlK.fresh {w1 : World} {q : Nat} (h : SlK qs pc w1 w) (hq : w1.heap.size ≤ q) (j : Nat) (u : Value) : SlK qs pc w1 (w.setCell ⟨q, j, none⟩ u) := Rk.Keeps.trans h (kx_set w (.inr hq) j u)
theorem SlK.alloc {w1 : World} (h : SlK qs pc w1 w) (ob : Obj) : SlK qs pc w1 (w.alloc ob) := h.trans (SlK.of ((Below.refl w.heap.size w).alloc (Nat.le_refl _) ob))
theorem SlK.low {B : Nat} (h : SlK qs pc w w') (h1 : B ≤ qs) (h2 : B ≤ pc) (hB : B ≤ w.heap.size) : Below B w w' := kx_below h (by intro x hx; simp at hx; omega) hB (Nat.le_refl _)
end
/-- Where a fresh set may be written: what was there stays, and all rows of numbers. -/
def KI (N : Nat) : Nat → Obj → Prop := fun k ob => k < N ∨ ∃ cs, ob = .cells cs 3 (0, 0)
theorem ki_box {w w' : World} {N b : Nat} {t : TypeId} {cs : Array Value} (h : Rk.Keeps (KI N) w w') (hb : Box w b t cs) (h1 : b < N) : Box w' b t cs := h.block b _ hb (.inl h1)
theorem ki_own {w w' : World} {N lo n : Nat} {v : Value} {xs : List Value} (ho : w.ownsRow lo 3 1 v n xs) (h : Rk.Keeps (KI N) w w') : w'.ownsRow lo 3 1 v n xs := by
  refine ⟨ho.1, ?_⟩
  rcases ho.2 with h1 | ⟨g, cap, cur, h1, h2, h3, h4⟩
  · exact .inl h1
  · exact .inr ⟨g, cap, cur, h1, h2, h.block g _ h3 (.inr ⟨cur, rfl⟩), h4⟩
theorem ki_below {w w' : World} {N : Nat} (h : Rk.Keeps (KI N) w w') (hN : N ≤ w.heap.size) : Below N w w' := ⟨h.os, h.tape, h.output, h.size, fun k hk => by
  have hlt : k < w.heap.size := by omega
  rw [h.block k _ (Array.getElem?_eq_getElem hlt) (.inl hk)]
  exact (Array.getElem?_eq_getElem hlt).symm⟩
theorem ki_set {w : World} {N q : Nat} {t : TypeId} {cs : Array Value} (hq : N ≤ q) (hb : Box w q t cs) (ht : t ≠ 3) (j : Nat) (u : Value) : Rk.Keeps (KI N) w (w.setCell ⟨q, j, none⟩ u) := ⟨rfl, rfl, rfl, by simp [World.setCell], fun k ob hob hk => by
  have hne : k ≠ q := by
    rintro rfl
    rcases hk with hk | ⟨cs', rfl⟩
    · omega
    · unfold Box at hb
      rw [hob] at hb
      injection hb with hb
      injection hb with _ e2
      exact ht e2.symm
  rw [Below.heap_setCell w ⟨q, j, none⟩ u k hne]
  exact hob⟩
theorem ki_set4 {w : World} {N q : Nat} {t : TypeId} {cs : Array Value} (hq : N ≤ q) (hb : Box w q t cs) (ht : t ≠ 3) (u0 u1 u2 u3 : Value) : Rk.Keeps (KI N) w ((((w.setCell ⟨q, 0, none⟩ u0).setCell ⟨q, 1, none⟩ u1).setCell ⟨q, 2, none⟩ u2).setCell ⟨q, 3, none⟩ u3) :=
  (((ki_set hq hb ht 0 u0).trans (ki_set hq (hb.set 0 u0) ht 1 u1)).trans (ki_set hq ((hb.set 0 u0).set 1 u1) ht 2 u2)).trans (ki_set hq (((hb.set 0 u0).set 1 u1).set 2 u2) ht 3 u3)
/-- All but some blocks. -/
def KN (X : List Nat) : Nat → Obj → Prop := fun k _ => k ∉ X
theorem kn_box {w w' : World} {b : Nat} {X : List Nat} {t : TypeId} {cs : Array Value} (h : Rk.Keeps (KN X) w w') (hb : Box w b t cs) (h1 : b ∉ X) : Box w' b t cs := h.block b _ hb h1
theorem SlK.kn {w w' : World} {qs pc : Nat} (h : SlK qs pc w w') : Rk.Keeps (KN [qs, pc]) w w' := ⟨h.os, h.tape, h.output, h.size, fun k ob hob hk => h.block k ob hob ⟨(Array.getElem?_eq_some_iff.1 hob).1, hk⟩⟩
theorem kn_slk {w w' : World} {qs pc : Nat} (h : Rk.Keeps (KN [qs, pc]) w w') : SlK qs pc w w' := ⟨h.os, h.tape, h.output, h.size, fun k ob hob hk => h.block k ob hob hk.2⟩
end W
end Go.Proofs.YtpjmboonaciplaaDoor
