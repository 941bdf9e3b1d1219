/- A game of the call's own that grows in its box, what is older staying; and the games that are made so. -/
import Derived.Test.YtpjmboonaciplaaDoorDecM
import Derived.Test.YtpjmboonaciplaaDoorDecT
import Derived.Test.YtpjmboonaciplaaDoorBuild
import Derived.Test.YtpjmboonaciplaaDoorCopy
import Derived.Deep.Cut
import Derived.Lib.Hide
import Derived.Deep.QuietTactic
import Derived.BigQuiet
import Derived.StillTailTactics
namespace Go.Proofs.YtpjmboonaciplaaDoor
open Go.RowKit
namespace W

structure Grw (wc wr : World) (q : Nat) (A B C : Value) (L : List Value) (g : P.G) : Prop where
  below : Below wc.heap.size wc wr
  box : Box wr q 25 #[A, B, C]
  built : Built wr wc.heap.size A B C L g
  qlo : wc.heap.size ≤ q
section
variable {wc wr wi w8 : World} {q : Nat} {A B C V : Value} {L : List Value} {g : P.G} {z : Int}
theorem Grw.on (h : Grw wc wr q A B C L g) (hg : wr.grownBy w8 none) : Grw wc w8 q A B C L g :=
  ⟨h.below.trans ((below_of_grown hg).mono h.below.size), h.box.keep hg, h.built.grown hg, h.qlo⟩
theorem Grw.size (h : Grw wc wr q A B C L g) : wc.heap.size ≤ wr.heap.size := h.below.size
theorem Grw.neO (h : Grw wc wr q A B C L g) {b : Nat} {cs : Array Value} {t : TypeId} (hb : Box wr b t cs) (ht : 3 ≠ t) : some b ≠ A.ownBlock := fun e => own_box h.built.own.owner hb ht e.symm
theorem Grw.neP (h : Grw wc wr q A B C L g) {b : Nat} {cs : Array Value} {t : TypeId} (hb : Box wr b t cs) (ht : 3 ≠ t) : some b ≠ B.ownBlock := fun e => own_box h.built.own.prio hb ht e.symm
theorem Grw.owner (h : Grw wc wr q A B C L g) (ha : w8.ownsRow wc.heap.size 3 1 V (g.owner.length + 1) (g.owner.map (Value.int .i64) ++ [.int .i64 z])) (hg : wr.grownBy w8 A.ownBlock) (hat : V.ownBlock = A.ownBlock ∨ ∃ p, V.ownBlock = some p ∧ wr.heap.size ≤ p) :
    Grw wc (w8.setCell ⟨q, 0, none⟩ V) q V B C L { g with owner := g.owner ++ [z] } := by
  have hbx := h.box.grown hg (h.neO h.box (by decide))
  exact ⟨(h.below.grown hg h.size (fun p hp => (own_lt h.built.own.owner p hp).1)).setCell (p := ⟨q, 0, none⟩) h.qlo V, by simpa using hbx.set 0 V, (h.built.owner ha hg hat).set hbx (by decide) (by decide) 0 V, h.qlo⟩
theorem Grw.prio (h : Grw wc wr q A B C L g) (ha : w8.ownsRow wc.heap.size 3 1 V (g.prio.length + 1) (g.prio.map (Value.int .i64) ++ [.int .i64 z])) (hg : wr.grownBy w8 B.ownBlock) (hat : V.ownBlock = B.ownBlock ∨ ∃ p, V.ownBlock = some p ∧ wr.heap.size ≤ p) :
    Grw wc (w8.setCell ⟨q, 1, none⟩ V) q A V C L { g with prio := g.prio ++ [z] } := by
  have hbx := h.box.grown hg (h.neP h.box (by decide))
  exact ⟨(h.below.grown hg h.size (fun p hp => (own_lt h.built.own.prio p hp).1)).setCell (p := ⟨q, 1, none⟩) h.qlo V, by simpa using hbx.set 1 V, (h.built.prio ha hg hat).set hbx (by decide) (by decide) 1 V, h.qlo⟩
theorem Grw.row (h : Grw wc wr q A B C L g) {x : Value} {l : List Int} (hg : wr.grownBy wi none) (hx : OwnI wi wr.heap.size x l) (hc : w8.ownsRow wc.heap.size 22 1 V (g.moves.length + 1) (L ++ [x])) (hgr : wi.grownBy w8 C.ownBlock) :
    Grw wc (w8.setCell ⟨q, 2, none⟩ V) q A B V (L ++ [x]) { g with moves := g.moves ++ [l] } := by
  have h2 := h.on hg
  have hbx := h2.box.grown hgr (fun e => own_box h2.built.own.head h2.box (by decide) e.symm)
  exact ⟨(h2.below.grown hgr h2.size (fun p hp => (own_lt h2.built.own.head p hp).1)).setCell (p := ⟨q, 2, none⟩) h.qlo V, by simpa using hbx.set 2 V, ((Mid.start h.built hg hx).row h.size hc hgr).set hbx (by decide) (by decide) 2 V, h.qlo⟩
end
/-- A copy of a right game is apart all through. -/
theorem hold_of {w : World} {lo : Nat} {v : Value} {l : List Int} (h : OwnI w lo v l) (hl : l ≠ []) : hold v = v.ownBlock := by
  rcases h.2 with ⟨h3, h4⟩ | ⟨b, cap, cur, rfl, -, -, hc, -⟩
  · exact absurd (List.length_eq_zero_iff.1 h4) hl
  · have : 0 < l.length := List.length_pos_iff.2 hl
    obtain ⟨c, rfl⟩ : ∃ c, cap = c + 1 := ⟨cap - 1, by omega⟩
    rfl
theorem OwnG.far_of {w : World} {lo : Nat} {a b c : Value} {L : List Value} {g : P.G} (h : OwnG w lo a b c L g) (hr : g.Right) : Far (a :: b :: L) := by
  have ho : ∀ (i : Nat) (u : Value), (a :: b :: L)[i]? = some u → hold u = u.ownBlock := by
    intro i u hu
    match i, hu with
    | 0, hu => simp at hu; subst hu; exact hold_of h.owner (fun e => by have := hr.pos; rw [e] at this; simp at this)
    | 1, hu => simp at hu; subst hu; exact hold_of h.prio (fun e => by have h1 := hr.pos; have h2 := hr.prio; rw [e] at h2; simp at h2; omega)
    | i + 2, hu =>
      have hl : L.length = g.moves.length * 1 := h.head.1
      simp at hu
      have hi := (List.getElem?_eq_some_iff.1 hu).1
      have hm := hr.moves
      obtain ⟨y, hy, hy2⟩ := h.rows i _ (List.getElem?_eq_getElem (by omega))
      rw [hu] at hy
      injection hy with hy
      subst hy
      have h4 := (hr.at i (by omega)).2.2.2.1
      rw [List.getD_eq_getElem?_getD, List.getElem?_eq_getElem (by omega)] at h4
      exact hold_of hy2 h4
  intro i j u v hi hj hne
  rcases h.apart i j u v hi hj hne with h1 | h1
  · rw [ho i u hi] at h1; exact .inl h1
  · rw [ho i u hi, ho j v hj] at h1; exact .inr h1
/-- The other way round, as far as it is made. -/
def backTo (g : P.G) (n p : Nat) : P.G := ⟨g.owner.reverse.take p, g.prio.reverse.take p, ((g.moves.map (P.backRow n)).reverse).take p⟩
theorem take_snoc_ {α : Type} {l : List α} {d : α} {p : Nat} (hp : p < l.length) : l.take (p + 1) = l.take p ++ [l.getD p d] := by
  rw [List.take_add_one, List.getD_eq_getElem?_getD, List.getElem?_eq_getElem hp]
  rfl
theorem backTo_zero (g : P.G) (n : Nat) : backTo g n 0 = P.G.none := rfl
theorem backTo_succ {g : P.G} (hr : g.Right) {n p : Nat} (hn : g.owner.length = n) (hp : p < n) : backTo g n (p + 1) = ⟨(backTo g n p).owner ++ [g.owner.getD (n - 1 - p) 0], (backTo g n p).prio ++ [g.prio.getD (n - 1 - p) 0], (backTo g n p).moves ++ [P.backRow n (g.moves.getD (n - 1 - p) [])]⟩ := by
  have h1 := hr.prio
  have h2 := hr.moves
  unfold backTo
  rw [take_snoc_ (d := 0) (by rw [List.length_reverse]; omega), take_snoc_ (d := 0) (l := g.prio.reverse) (by rw [List.length_reverse]; omega), take_snoc_ (d := []) (l := (g.moves.map (P.backRow n)).reverse) (by rw [List.length_reverse, List.length_map]; omega)]
  have e1 := P.back_own (g := g) hn hp
  have e2 := P.back_prio hr hn hp
  have e3 := P.back_row hr hn hp
  unfold P.G.back at e1 e2 e3
  simp only [] at e1 e2 e3
  rw [e1, e2, e3]
theorem backTo_all {g : P.G} (hr : g.Right) {n : Nat} (hn : g.owner.length = n) : backTo g n n = g.back n := by
  have h1 := hr.prio
  have h2 := hr.moves
  unfold backTo P.G.back
  rw [List.take_of_length_le (by rw [List.length_reverse]; omega), List.take_of_length_le (by rw [List.length_reverse]; omega), List.take_of_length_le (by rw [List.length_reverse, List.length_map]; omega)]
theorem backTo_len {g : P.G} (hr : g.Right) {n p : Nat} (hn : g.owner.length = n) (hp : p ≤ n) : (backTo g n p).owner.length = p ∧ (backTo g n p).prio.length = p ∧ (backTo g n p).moves.length = p := by
  have h1 := hr.prio
  have h2 := hr.moves
  unfold backTo
  refine ⟨?_, ?_, ?_⟩
  · rw [List.length_take, List.length_reverse]; omega
  · rw [List.length_take, List.length_reverse]; omega
  · rw [List.length_take, List.length_reverse, List.length_map]; omega
theorem backRow_len (n : Nat) (l : List Int) : (P.backRow n l).length = l.length := by unfold P.backRow; rw [List.length_reverse, List.length_map]
theorem backRow_at {n : Nat} {l : List Int} {r : Nat} (hr : r < l.length) : (P.backRow n l).getD r 0 = (n : Int) - 1 - l.getD (l.length - 1 - r) 0 := by
  unfold P.backRow
  rw [P.getD_rev (by rw [List.length_map]; exact hr), List.length_map, List.getD_eq_getElem?_getD, List.getD_eq_getElem?_getD, List.getElem?_map, List.getElem?_eq_getElem (by omega)]
  rfl
/-- One game behind the other, as far as it is made. -/
def besideTo (g h : P.G) (n p : Nat) : P.G := ⟨g.owner ++ h.owner.take p, g.prio ++ h.prio.take p, g.moves ++ (h.moves.take p).map (P.farRow n)⟩
theorem besideTo_zero (g h : P.G) (n : Nat) : besideTo g h n 0 = g := by unfold besideTo; simp
theorem besideTo_succ {g h : P.G} (hr : h.Right) {n k p : Nat} (hk : h.owner.length = k) (hp : p < k) : besideTo g h n (p + 1) = ⟨(besideTo g h n p).owner ++ [h.owner.getD p 0], (besideTo g h n p).prio ++ [h.prio.getD p 0], (besideTo g h n p).moves ++ [P.farRow n (h.moves.getD p [])]⟩ := by
  have h1 := hr.prio
  have h2 := hr.moves
  unfold besideTo
  rw [take_snoc_ (d := 0) (l := h.owner) (by omega), take_snoc_ (d := 0) (l := h.prio) (by omega), take_snoc_ (d := []) (l := h.moves) (by omega)]
  simp
theorem besideTo_all {g h : P.G} (hr : h.Right) {n k : Nat} (hn : g.owner.length = n) (hk : h.owner.length = k) : besideTo g h n k = g.beside h := by
  have h1 := hr.prio
  have h2 := hr.moves
  unfold besideTo P.G.beside
  rw [List.take_of_length_le (by omega), List.take_of_length_le (by omega), List.take_of_length_le (by omega), hn]
theorem besideTo_len {g h : P.G} (gr : g.Right) (hr : h.Right) {n k p : Nat} (hn : g.owner.length = n) (hk : h.owner.length = k) (hp : p ≤ k) : (besideTo g h n p).owner.length = n + p ∧ (besideTo g h n p).prio.length = n + p ∧ (besideTo g h n p).moves.length = n + p := by
  have h1 := hr.prio
  have h2 := hr.moves
  have h3 := gr.prio
  have h4 := gr.moves
  unfold besideTo
  refine ⟨?_, ?_, ?_⟩
  · rw [List.length_append, List.length_take]; omega
  · rw [List.length_append, List.length_take]; omega
  · rw [List.length_append, List.length_map, List.length_take]; omega
theorem farRow_len (n : Nat) (l : List Int) : (P.farRow n l).length = l.length := by unfold P.farRow; rw [List.length_map]
theorem farRow_at {n : Nat} {l : List Int} {r : Nat} (hr : r < l.length) : (P.farRow n l).getD r 0 = l.getD r 0 + (n : Int) := by
  unfold P.farRow
  rw [List.getD_eq_getElem?_getD, List.getD_eq_getElem?_getD, List.getElem?_map, List.getElem?_eq_getElem hr]
  rfl
/-- A game in its box, whole. -/
theorem Grw.game {wc wr : World} {q : Nat} {A B C : Value} {L : List Value} {g : P.G} (h : Grw wc wr q A B C L g) (hr : g.Right) : GameV wr (.agg #[A, B, C]) g := by
  have hm := hr.many
  refine h.built.own.game ⟨by omega, by have := hr.prio; omega, by have := hr.moves; omega, fun j l hl => ?_⟩
  have h1 := hr.moves
  have hj := (List.getElem?_eq_some_iff.1 hl).1
  have h2 := (hr.at j (by omega)).2.2.2.2
  have h3 : g.moves.getD j [] = l := by rw [List.getD_eq_getElem?_getD, hl]; rfl
  rw [h3] at h2
  have := P.rise_len h2 hm
  omega
end W
end Go.Proofs.YtpjmboonaciplaaDoor
