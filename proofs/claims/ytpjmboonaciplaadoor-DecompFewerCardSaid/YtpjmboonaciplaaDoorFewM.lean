/- A game of the call's own whose rows of moves are written over. -/
import Derived.Test.YtpjmboonaciplaaDoorDecF
import Derived.Test.YtpjmboonaciplaaDoorGrowR
import Derived.Test.YtpjmboonaciplaaDoorHep
import Derived.Test.YtpjmboonaciplaaDoorAttM
import Derived.Test.YtpjmboonaciplaaDoorSvA
import Derived.Deep.Cut
import Derived.Lib.Hide
import Derived.Deep.QuietTactic
import Derived.BigQuiet
import Derived.StillTailTactics
namespace Go.Proofs.YtpjmboonaciplaaDoor
open Go.RowKit
namespace W

/-- A row of rows of the call's own; the rows lie anywhere. -/
def RowsF (wr : World) (lo pn qn n kn : Nat) (f : Nat → List Int) : Prop := ∃ xs : List Value, wr.ownsRow lo 22 1 (.slice (some ⟨pn, 0, none⟩) n kn) n xs ∧ ∀ j, j < n → ∃ a m k, xs[j]? = some (.slice a m k) ∧ Ints wr (.slice a m k) (f j) ∧ ∀ (ad : Addr), a = some ad → ad.block ≠ pn ∧ ad.block ≠ qn
theorem RowsF.on {wr wq : World} {lo pn qn n kn : Nat} {f : Nat → List Int} (h : RowsF wr lo pn qn n kn f) (hb : Below wr.heap.size wr wq) : RowsF wq lo pn qn n kn f := by
  obtain ⟨xs, h1, h2⟩ := h
  exact ⟨xs, own_grown h1 (grown_of_below hb none), fun j hj => by obtain ⟨a, m, k, h3, h4, h5⟩ := h2 j hj; exact ⟨a, m, k, h3, h4.on hb, h5⟩⟩
theorem RowsF.cell {wr : World} {lo pn qn n kn : Nat} {f : Nat → List Int} (h : RowsF wr lo pn qn n kn f) {j : Nat} (hj : j < n) : (∃ u, wr.cell? ⟨pn, j, none⟩ = some u) ∧ wr.frozen? ⟨pn, j, none⟩ = false := by
  obtain ⟨xs, h1, h2⟩ := h
  obtain ⟨a, m, k, h3, -⟩ := h2 j hj
  exact ⟨⟨_, (h1.cellAt j (by omega)).trans h3⟩, h1.frozenAt j⟩
theorem RowsF.grid {wr : World} {lo pn qn n kn : Nat} {f : Nat → List Int} (h : RowsF wr lo pn qn n kn f) (hn : n ≤ 5864062014634) : Grid wr (.slice (some ⟨pn, 0, none⟩) n kn) ((List.range n).map f) := by
  obtain ⟨xs, h1, h2⟩ := h
  refine ⟨_, kn, by rw [List.length_map, List.length_range], by rw [List.length_map, List.length_range]; exact hn, ?_⟩
  by_cases h0 : n = 0
  · exact .inl (by rw [h0]; rfl)
  · refine .inr ⟨pn, 0, rfl, (own_lt h1 pn rfl).2, fun j hj => ?_⟩
    rw [List.length_map, List.length_range] at hj
    obtain ⟨a, m, k, h3, h4, -⟩ := h2 j hj
    exact ⟨_, by rw [Nat.zero_add]; exact (h1.cellAt j (by omega)).trans h3, by rw [P.rows_at hj]; exact h4⟩
/-- No row of numbers lies where the rows lie. -/
theorem own_off {w : World} {lo n pn kn : Nat} {L : List Value} (hh : w.ownsRow lo 22 1 (.slice (some ⟨pn, 0, none⟩) n kn) n L) {zs : List Int} {ad : Addr} {m k : Nat} (h : OwnI w lo (.slice (some ad) m k) zs) : ad.block ≠ pn := by
  intro e
  rcases hh.2 with ⟨h3, -⟩ | ⟨g, cap, cur, e1, h3, h4, -⟩
  · cases h3
  rcases h.2 with ⟨h5, -⟩ | ⟨g', cap', cur', e1', h5, h6, -⟩
  · cases h5
  · injection e1 with e1
    injection e1 with e1
    injection e1 with e1
    injection e1' with e1'
    injection e1' with e1'
    subst e1'
    change g' = pn at e
    rw [e, e1, h4] at h6
    injection h6 with h6
    injection h6 with _ h6
    exact absurd h6 (by decide)
theorem RowsF.start {w : World} {lo n pn qn kn : Nat} {ls : List (List Int)} {L : List Value} (hne : ∀ (j : Nat) (l : List Int) (x : Value), ls[j]? = some l → L[j]? = some x → x.ownBlock ≠ some qn) (hl : ls.length = n) (hh : w.ownsRow lo 22 1 (.slice (some ⟨pn, 0, none⟩) n kn) ls.length L) (hr : OwnRows w lo L ls) (hb : ∀ (j : Nat) (l : List Int), ls[j]? = some l → l.length ≤ 17592186043904) : RowsF w lo pn qn n kn (fun j => ls.getD j []) := by
  rw [hl] at hh
  refine ⟨L, hh, fun j hj => ?_⟩
  have hy : ls[j]? = some ls[j] := List.getElem?_eq_getElem (by omega)
  obtain ⟨x, hx, ho⟩ := hr j _ hy
  have hi := ho.ints (hb j _ hy)
  obtain ⟨ao, k, e, -⟩ := id hi
  subst e
  refine ⟨ao, ls[j].length, k, hx, ?_, fun ad e => ?_⟩
  · show Ints w _ (ls.getD j [])
    rw [List.getD_eq_getElem?_getD, hy]
    exact hi
  · subst e
    exact ⟨own_off hh ho, fun e => hne j _ _ hy hx (by rw [← e]; rfl)⟩
theorem ints_off {wr : World} {pn : Nat} {a : Option Addr} {m k : Nat} {zs : List Int} (hv : Ints wr (.slice a m k) zs) (hne : ∀ (ad : Addr), a = some ad → ad.block ≠ pn) (x : Nat) (u : Value) : Ints (wr.setCell ⟨pn, x, none⟩ u) (.slice a m k) zs := by
  obtain ⟨ao, cap, e0, h1, h2⟩ := hv
  refine ⟨ao, cap, e0, h1, h2.imp id ?_⟩
  rintro ⟨b, off, e1, h3, h4⟩
  have hb : b ≠ pn := hne ⟨b, off, none⟩ (by injection e0 with e0; rw [e0, e1])
  refine ⟨b, off, e1, by simpa [World.setCell] using h3, fun j hj => ?_⟩
  have hg := grown_set wr ⟨pn, x, none⟩ u
  exact hg.cell (h4 j hj) (fun e => hb (by injection e))
theorem RowsF.put {wr : World} {lo pn qn n kn x : Nat} {f f' : Nat → List Int} (h : RowsF wr lo pn qn n kn f) {a : Option Addr} {m k : Nat} {zs : List Int} (hv : Ints wr (.slice a m k) zs) (hne : ∀ (ad : Addr), a = some ad → ad.block ≠ pn ∧ ad.block ≠ qn) (hl : ∀ j, j < n → f' j = if j = x then zs else f j) : RowsF (wr.setCell ⟨pn, x, none⟩ (.slice a m k)) lo pn qn n kn f' := by
  obtain ⟨xs, h1, h2⟩ := h
  refine ⟨_, (h1.stored x (.slice a m k)).1, fun j hj => ?_⟩
  rw [hl j hj]
  by_cases e : j = x
  · rw [if_pos e, e]
    rw [e] at hj
    exact ⟨a, m, k, by rw [List.getElem?_set_self (by have := h1.1; omega)], ints_off hv (fun ad e => (hne ad e).1) x _, hne⟩
  · rw [if_neg e]
    obtain ⟨a', m', k', h3, h4, h5⟩ := h2 j hj
    exact ⟨a', m', k', by rw [List.getElem?_set_ne (Ne.symm e)]; exact h3, ints_off h4 (fun ad e => (h5 ad e).1) x _, h5⟩
theorem RowsF.far {wr : World} {lo pn qn n kn : Nat} {f f' : Nat → List Int} (h : RowsF wr lo pn qn n kn f) (hpq : pn ≠ qn) (hl : ∀ j, j < n → f' j = f j) (x : Nat) (u : Value) : RowsF (wr.setCell ⟨qn, x, none⟩ u) lo pn qn n kn f' := by
  obtain ⟨xs, h1, h2⟩ := h
  refine ⟨xs, own_kept h1 (grown_set wr ⟨qn, x, none⟩ u) (.inr (by simp [Value.ownBlock]; exact hpq)), fun j hj => ?_⟩
  obtain ⟨a, m, k, h3, h4, h5⟩ := h2 j hj
  rw [hl j hj]
  exact ⟨a, m, k, h3, ints_off h4 (fun ad e => (h5 ad e).2) x u, h5⟩
theorem RowsF.same {wr : World} {lo pn qn n kn : Nat} {f f' : Nat → List Int} (h : RowsF wr lo pn qn n kn f) (hl : ∀ j, j < n → f' j = f j) : RowsF wr lo pn qn n kn f' := by
  obtain ⟨xs, h1, h2⟩ := h
  exact ⟨xs, h1, fun j hj => by rw [hl j hj]; exact h2 j hj⟩
theorem RowsF.lt {wr : World} {lo pn qn n kn : Nat} {f : Nat → List Int} (h : RowsF wr lo pn qn n kn f) : pn < wr.heap.size := by
  obtain ⟨xs, h1, -⟩ := h
  exact (own_lt h1 pn rfl).2
/-- A row of one number, made anew. -/
theorem ints_one (w : World) (z : Int) : Ints (w.alloc (.cells #[.int .i64 z] 3)) (.slice (some ⟨w.heap.size, 0, none⟩) 1 1) [z] := by
  refine ⟨_, 1, rfl, by simp, .inr ⟨w.heap.size, 0, rfl, by simp, fun j hj => ?_⟩⟩
  have hj : j < 1 := hj
  obtain rfl : j = 0 := by omega
  exact (Box.new w 3 #[.int .i64 z]).cell 0 _ rfl
theorem box_ints {w : World} {b : Nat} {z : Int} (h : Box w b 3 #[.int .i64 z]) : Ints w (.slice (some ⟨b, 0, none⟩) 1 1) [z] := by
  refine ⟨_, 1, rfl, by simp, .inr ⟨b, 0, rfl, h.lt, fun j hj => ?_⟩⟩
  have hj : j < 1 := hj
  obtain rfl : j = 0 := by omega
  exact h.cell 0 _ rfl
/-- The number that a keep stands for. -/
def foldN (z : Int) : Nat := (if z < 0 then -(z + 1) else z).toNat
theorem fold_neg {z : Int} (h : z < 0) : -(z + 1) = (foldN z : Int) := by unfold foldN; rw [if_pos h]; omega
theorem fold_pos {z : Int} (h : ¬ z < 0) : z = (foldN z : Int) := by unfold foldN; rw [if_neg h]; omega
theorem fold_le {z : Int} (h1 : -9223372036854775808 ≤ z) (h2 : z ≤ 9223372036854775807) : foldN z ≤ 9223372036854775807 := by
  unfold foldN
  by_cases h : z < 0
  · rw [if_pos h]; omega
  · rw [if_neg h]; omega
/-- The rows of h and of k ahead of pass k of the loop. -/
def hPart (g : P.G) (X : BitVec 256) (c : List Int) (k j : Nat) : List Int := if j < k then P.hRow g X c j else g.moves.getD j []
def kPart (g : P.G) (X : BitVec 256) (e : Nat → Nat) (k j : Nat) : List Int := if j < k then P.kRow g X e j else g.moves.getD j []
theorem hPart_put {g : P.G} {X : BitVec 256} {c : List Int} {k : Nat} (ho : g.owner.getD k 0 = P.winOf X k) (j : Nat) : hPart g X c (k + 1) j = if j = k then [c.getD k (-1)] else hPart g X c k j := by
  unfold hPart
  by_cases e : j = k
  · subst e
    rw [if_pos rfl, if_pos (Nat.lt_succ_self _)]
    unfold P.hRow
    rw [if_pos ho]
  · rw [if_neg e]
    by_cases h : j < k
    · rw [if_pos h, if_pos (by omega)]
    · rw [if_neg h, if_neg (by omega)]
theorem hPart_stay {g : P.G} {X : BitVec 256} {c : List Int} {k : Nat} (ho : ¬ g.owner.getD k 0 = P.winOf X k) (j : Nat) : hPart g X c (k + 1) j = hPart g X c k j := by
  unfold hPart
  by_cases e : j = k
  · subst e
    rw [if_neg (Nat.lt_irrefl _), if_pos (Nat.lt_succ_self _)]
    unfold P.hRow
    rw [if_neg ho]
  · by_cases h : j < k
    · rw [if_pos h, if_pos (by omega)]
    · rw [if_neg h, if_neg (by omega)]
theorem kPart_put {g : P.G} {X : BitVec 256} {e : Nat → Nat} {k : Nat} (ho : ¬ g.owner.getD k 0 = P.winOf X k) (j : Nat) : kPart g X e (k + 1) j = if j = k then [(g.moves.getD k []).getD (e k) 0] else kPart g X e k j := by
  unfold kPart
  by_cases e : j = k
  · subst e
    rw [if_pos rfl, if_pos (Nat.lt_succ_self _)]
    unfold P.kRow
    rw [if_neg ho]
  · rw [if_neg e]
    by_cases h : j < k
    · rw [if_pos h, if_pos (by omega)]
    · rw [if_neg h, if_neg (by omega)]
theorem kPart_stay {g : P.G} {X : BitVec 256} {e : Nat → Nat} {k : Nat} (ho : g.owner.getD k 0 = P.winOf X k) (j : Nat) : kPart g X e (k + 1) j = kPart g X e k j := by
  unfold kPart
  by_cases e : j = k
  · subst e
    rw [if_neg (Nat.lt_irrefl _), if_pos (Nat.lt_succ_self _)]
    unfold P.kRow
    rw [if_pos ho]
  · by_cases h : j < k
    · rw [if_pos h, if_pos (by omega)]
    · rw [if_neg h, if_neg (by omega)]
theorem parts_start (g : P.G) (X : BitVec 256) (c : List Int) (e : Nat → Nat) (j : Nat) : hPart g X c 0 j = g.moves.getD j [] ∧ kPart g X e 0 j = g.moves.getD j [] := ⟨if_neg (Nat.not_lt_zero _), if_neg (Nat.not_lt_zero _)⟩
theorem parts_end {n : Nat} (g : P.G) (X : BitVec 256) (c : List Int) (e : Nat → Nat) : (List.range n).map (hPart g X c n) = (List.range n).map (P.hRow g X c) ∧ (List.range n).map (kPart g X e n) = (List.range n).map (P.kRow g X e) :=
  ⟨List.map_congr_left fun _ hj => if_pos (List.mem_range.1 hj), List.map_congr_left fun _ hj => if_pos (List.mem_range.1 hj)⟩
/-- The memory ahead of pass k of the loop. -/
structure FewS (we : World) (lo1 lo2 hb kb n hk kk : Nat) (g : P.G) (X : BitVec 256) (c : List Int) (e : Nat → Nat) (k : Nat) (wr : World) : Prop where
  keep : Rk.Keeps (KX we.heap.size [hb, kb]) we wr
  h : RowsF wr lo1 hb kb n hk (hPart g X c k)
  k : RowsF wr lo2 kb hb n kk (kPart g X e k)
section
variable {we : World} {lo1 lo2 hb kb n hk kk : Nat} {g : P.G} {X : BitVec 256} {c : List Int} {e : Nat → Nat} {k : Nat} {wr w8 : World} {q : Nat} {z : Int}
theorem FewS.on (h : FewS we lo1 lo2 hb kb n hk kk g X c e k wr) (hg : wr.grownBy w8 none) : FewS we lo1 lo2 hb kb n hk kk g X c e k w8 :=
  ⟨h.keep.trans (kx_below_of (below_of_grown hg)), h.h.on (below_of_grown hg), h.k.on (below_of_grown hg)⟩
theorem FewS.putH (h : FewS we lo1 lo2 hb kb n hk kk g X c e k w8) (hbk : hb ≠ kb) (hq1 : q ≠ hb) (hq2 : q ≠ kb) (hx : Box w8 q 3 #[.int .i64 z]) (ho : g.owner.getD k 0 = P.winOf X k) (hz : z = c.getD k (-1)) : FewS we lo1 lo2 hb kb n hk kk g X c e (k + 1) (w8.setCell ⟨hb, k, none⟩ (.slice (some ⟨q, 0, none⟩) 1 1)) :=
  ⟨h.keep.trans (kx_set w8 (.inl (by simp)) k _), h.h.put (box_ints hx) (fun ad e => by injection e with e; rw [← e]; exact ⟨hq1, hq2⟩) (fun j _ => by rw [hz]; exact hPart_put ho j), h.k.far (Ne.symm hbk) (fun j _ => kPart_stay ho j) k _⟩
theorem FewS.putK (h : FewS we lo1 lo2 hb kb n hk kk g X c e k w8) (hbk : hb ≠ kb) (hq1 : q ≠ hb) (hq2 : q ≠ kb) (hx : Box w8 q 3 #[.int .i64 z]) (ho : ¬ g.owner.getD k 0 = P.winOf X k) (hz : z = (g.moves.getD k []).getD (e k) 0) : FewS we lo1 lo2 hb kb n hk kk g X c e (k + 1) (w8.setCell ⟨kb, k, none⟩ (.slice (some ⟨q, 0, none⟩) 1 1)) :=
  ⟨h.keep.trans (kx_set w8 (.inl (by simp)) k _), h.h.far hbk (fun j _ => hPart_stay ho j) k _, h.k.put (box_ints hx) (fun ad e => by injection e with e; rw [← e]; exact ⟨hq2, hq1⟩) (fun j _ => by rw [hz]; exact kPart_put ho j)⟩
end
/-- Which number of keep stands for a position, and which move that is. -/
def keepAt (zs : List Int) (i : Nat) : Int := if 0 < zs.length then zs.getD (i % zs.length) 0 else 0
def keepE (g : P.G) (zs : List Int) (i : Nat) : Nat := foldN (keepAt zs i) % (g.moves.getD i []).length
theorem mem_at {l : List Int} {i : Nat} (hi : i < l.length) : l.getD i 0 ∈ l := by
  rw [List.getD_eq_getElem?_getD, List.getElem?_eq_getElem hi]
  exact List.getElem_mem hi
section
variable {g : P.G} (hr : g.Right) {n : Nat} (hn : g.owner.length = n) {X Y : BitVec 256} {c c1 : List Int} (h : P.Ap g 0 (P.full (n : Int)) X Y c c1)
include hr hn h
theorem few_h : (⟨g.owner, g.prio, (List.range n).map (P.hRow g X c1)⟩ : P.G).Right ∧ ∀ (X' Y' : BitVec 256) (c' c1' : List Int), P.Ap ⟨g.owner, g.prio, (List.range n).map (P.hRow g X c1)⟩ 0 (P.full (n : Int)) X' Y' c' c1' → X = X' ∧ Y = Y' := by
  have hb := fun i => (P.full_bits hr hn).1 i
  refine ⟨P.right_rows hr (by rw [List.length_map, List.length_range, hn]) fun i hi => ?_, fun X' Y' c' c1' h' => P.rows_same hr hn (fun i hi x hx => ?_) (fun i hi ho => ?_) hb h h'⟩
  · rw [P.rows_at (by omega)]
    unfold P.hRow
    by_cases ho : g.owner.getD i 0 = P.winOf X i
    · rw [if_pos ho]
      exact .inr ⟨_, P.win_move hb h (by omega) ho, rfl⟩
    · rw [if_neg ho]
      exact .inl rfl
  · unfold P.hRow at hx
    by_cases ho : g.owner.getD i 0 = P.winOf X i
    · rw [if_pos ho, List.mem_singleton] at hx
      rw [hx]
      exact P.win_move hb h hi ho
    · rw [if_neg ho] at hx
      exact hx
  · unfold P.hRow
    rw [if_pos ho]
    exact List.mem_cons_self ..
theorem few_k (zs : List Int) : (⟨g.owner, g.prio, (List.range n).map (P.kRow g X (keepE g zs))⟩ : P.G).Right ∧ ∀ (X' Y' : BitVec 256) (c' c1' : List Int), P.Ap ⟨g.owner, g.prio, (List.range n).map (P.kRow g X (keepE g zs))⟩ 0 (P.full (n : Int)) X' Y' c' c1' → X = X' ∧ Y = Y' := by
  have hb := fun i => (P.full_bits hr hn).1 i
  have hin : ∀ i, i < n → (g.moves.getD i []).getD (keepE g zs i) 0 ∈ g.moves.getD i [] := fun i hi => by
    have h0 : 0 < (g.moves.getD i []).length := List.length_pos_iff.2 (hr.at i (by omega)).2.2.2.1
    have h1 : keepE g zs i < (g.moves.getD i []).length := Nat.mod_lt _ h0
    exact mem_at h1
  refine ⟨P.right_rows hr (by rw [List.length_map, List.length_range, hn]) fun i hi => ?_, fun X' Y' c' c1' h' => P.rows_same hr hn (fun i hi x hx => ?_) (fun i hi ho => ?_) hb h h'⟩
  · rw [P.rows_at (by omega)]
    unfold P.kRow
    by_cases ho : g.owner.getD i 0 = P.winOf X i
    · rw [if_pos ho]
      exact .inl rfl
    · rw [if_neg ho]
      exact .inr ⟨_, hin i (by omega), rfl⟩
  · unfold P.kRow at hx
    by_cases ho : g.owner.getD i 0 = P.winOf X i
    · rw [if_pos ho] at hx
      exact hx
    · rw [if_neg ho, List.mem_singleton] at hx
      rw [hx]
      exact hin i hi
  · unfold P.kRow
    rw [if_pos ho]
    exact P.win_move hb h hi ho
end
end W
end Go.Proofs.YtpjmboonaciplaaDoor
