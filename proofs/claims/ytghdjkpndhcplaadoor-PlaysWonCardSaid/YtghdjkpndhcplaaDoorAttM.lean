/- What Attract's main loop keeps in memory. -/
import Derived.Test.YtghdjkpndhcplaaDoorGrowR
import Derived.Test.YtghdjkpndhcplaaDoorAttA
import Derived.Test.YtghdjkpndhcplaaDoorList
import Derived.Test.YtghdjkpndhcplaaDoorMemA
namespace Go.Proofs.YtghdjkpndhcplaaDoor
open Go.RowKit
namespace W

structure Mh (w9 : World) (N lo qs pa pm n : Nat) (A : BitVec 256) (Q : List Nat) (o v : Nat → Int) (qv : Value) (wr : World) : Prop where
  set : Box wr qs 37 #[.int .u64 (P.wrd A 0), .int .u64 (P.wrd A 1), .int .u64 (P.wrd A 2), .int .u64 (P.wrd A 3)]
  outs : OwnI wr lo (.slice (some ⟨pa, 0, none⟩) n n) (P.rowOf n o)
  mvs : OwnI wr lo (.slice (some ⟨pm, 0, none⟩) n n) (P.rowOf n v)
  queue : wr.ownsRow N 3 1 qv Q.length (P.vals Q)
  keep : Rk.Keeps (KX N [qs, pa, pm]) w9 wr
section
variable {w9 : World} {N lo qs pa pm n : Nat} {A : BitVec 256} {Q : List Nat} {o v : Nat → Int} {qv : Value} {wr : World}
theorem Mh.on (h : Mh w9 N lo qs pa pm n A Q o v qv wr) {w' : World} (hb : Below wr.heap.size wr w') : Mh w9 N lo qs pa pm n A Q o v qv w' :=
  ⟨h.set.keep (grown_of_below hb none), own_grown h.outs (grown_of_below hb none), own_grown h.mvs (grown_of_below hb none), own_grown h.queue (grown_of_below hb none), h.keep.trans (kx_below_of hb)⟩
theorem Mh.qb (h : Mh w9 N lo qs pa pm n A Q o v qv wr) : ∀ b, qv.ownBlock = some b → N ≤ b := fun b hb => (own_lt h.queue b hb).1
theorem Mh.past (h : Mh w9 N lo qs pa pm n A Q o v qv wr) {q : Nat} (hq : q < N) : qv.ownBlock = none ∨ qv.ownBlock ≠ some q := .inr fun e => by have := h.qb q e; omega
theorem Mh.dec (h : Mh w9 N lo qs pa pm n A Q o v qv wr) (ha : pa < N) (h1 : qs ≠ pa) (h2 : pm ≠ pa) (x : Nat) (z : Int) : Mh w9 N lo qs pa pm n A Q (fun y => if y = x then z else o y) v qv (wr.setCell ⟨pa, x, none⟩ (.int .i64 z)) :=
  ⟨h.set.far h1 _, by rw [← P.rowOf_set]; exact h.outs.put x z, own_kept h.mvs (grown_set wr ⟨pa, x, none⟩ _) (.inr fun e => by injection e with e; exact h2 e), own_kept h.queue (grown_set wr ⟨pa, x, none⟩ _) (h.past ha), h.keep.trans (kx_set wr (.inl (by simp)) x _)⟩
theorem Mh.move (h : Mh w9 N lo qs pa pm n A Q o v qv wr) (ha : pm < N) (h1 : qs ≠ pm) (h2 : pa ≠ pm) (x : Nat) (z : Int) : Mh w9 N lo qs pa pm n A Q o (fun y => if y = x then z else v y) qv (wr.setCell ⟨pm, x, none⟩ (.int .i64 z)) :=
  ⟨h.set.far h1 _, own_kept h.outs (grown_set wr ⟨pm, x, none⟩ _) (.inr fun e => by injection e with e; exact h2 e), by rw [← P.rowOf_set]; exact h.mvs.put x z, own_kept h.queue (grown_set wr ⟨pm, x, none⟩ _) (h.past ha), h.keep.trans (kx_set wr (.inl (by simp)) x _)⟩
theorem Mh.with_ (h : Mh w9 N lo qs pa pm n A Q o v qv wr) (hs : qs < N) (h1 : pa ≠ qs) (h2 : pm ≠ qs) (A' : BitVec 256) : Mh w9 N lo qs pa pm n A' Q o v qv (((((wr).setCell ⟨qs, 0, none⟩ (.int .u64 (P.wrd A' 0))).setCell ⟨qs, 1, none⟩ (.int .u64 (P.wrd A' 1))).setCell ⟨qs, 2, none⟩ (.int .u64 (P.wrd A' 2))).setCell ⟨qs, 3, none⟩ (.int .u64 (P.wrd A' 3))) :=
  ⟨Blk.store (show Blk wr qs A 37 from h.set) A', own_kept h.outs (grown4 _ _ _ _) (.inr fun e => by injection e with e; exact h1 e), own_kept h.mvs (grown4 _ _ _ _) (.inr fun e => by injection e with e; exact h2 e), own_kept h.queue (grown4 _ _ _ _) (h.past hs), h.keep.trans (kx4 _ _ _ _ (.inl (by simp)))⟩
/-- The queue grows by one. -/
theorem Mh.push (h : Mh w9 N lo qs pa pm n A Q o v qv wr) (hs : qs < N) (ha : pa < N) (hm : pm < N) {u : Obj} {w7 : World} {v' : Value} {x : Nat} (hg : (wr.alloc u).grownBy w7 qv.ownBlock) (ho : w7.ownsRow N 3 1 v' (Q.length + 1) (P.vals Q ++ [.int .i64 (x : Int)])) : Mh w9 N lo qs pa pm n A (Q ++ [x]) o v v' w7 :=
  ⟨(h.set.alloc u).grown hg (fun e => by have := h.qb qs e.symm; omega), own_kept (own_grown h.outs (World.grownBy_alloc wr u none)) hg (.inr fun e => by have := h.qb pa e.symm; omega), own_kept (own_grown h.mvs (World.grownBy_alloc wr u none)) hg (.inr fun e => by have := h.qb pm e.symm; omega),
   by rw [List.length_append, P.vals_append, P.vals_one]; exact ho, (h.keep.trans (kx_grown (World.grownBy_alloc wr u none) (fun k e => by cases e))).trans (kx_grown hg fun k e => .inr (h.qb k e))⟩
/-- Of the queue: a number in its place. -/
theorem Mh.cellq (h : Mh w9 N lo qs pa pm n A Q o v qv wr) {i q : Nat} (hq : Q[i]? = some q) : ∃ b k, qv = .slice (some ⟨b, 0, none⟩) Q.length k ∧ wr.cell? ⟨b, i, none⟩ = some (.int .i64 (q : Int)) := by
  have hi := (List.getElem?_eq_some_iff.1 hq).1
  obtain ⟨b, k, e, -, -, hc, -⟩ := own_form h.queue (by omega)
  exact ⟨b, k, e, hc i _ (by unfold P.vals; rw [List.getElem?_map, hq]; rfl)⟩
theorem rowOf_cell {w : World} {lo p n : Nat} {f : Nat → Int} (h : OwnI w lo (.slice (some ⟨p, 0, none⟩) n n) (P.rowOf n f)) {j : Nat} (hj : j < n) : w.cell? ⟨p, j, none⟩ = some (.int .i64 (f j)) ∧ w.frozen? ⟨p, j, none⟩ = false := by
  unfold OwnI at h
  rw [P.rowOf_len] at h
  refine ⟨?_, h.frozenAt j⟩
  rw [h.cellAt j (by omega), List.getElem?_map, P.rowOf_at f hj]
  rfl
end
end W
end Go.Proofs.YtghdjkpndhcplaaDoor
