/- What taking a part apart wants: frames, and the plain steps. -/
import Derived.Test.YtpjmboonaciplaaDoorSlv
import Derived.Test.YtpjmboonaciplaaDoorEq
import Derived.Deep.Cut
import Derived.Lib.Hide
import Derived.Deep.QuietTactic
import Derived.BigQuiet
import Derived.StillTailTactics
namespace Go.Proofs.YtpjmboonaciplaaDoor
open Go.RowKit
namespace W

end W
namespace P
theorem Ap.swap0 {g : G} {I X Y : BitVec 256} {c c' : List Int} (h : Ap g 0 I X Y c c') : Ap g 1 I Y X c c' := by
  have := h.swap
  rwa [show (1 : Int) - 0 = 1 by decide] at this
theorem Ap.swap1 {g : G} {I X Y : BitVec 256} {c c' : List Int} (h : Ap g 1 I X Y c c') : Ap g 0 I Y X c c' := by
  have := h.swap
  rwa [show (1 : Int) - 1 = 0 by decide] at this
/-- What is left without the attracted ones is a part again, with fewer positions. -/
theorem ap_next {g : G} (hr : g.Right) {p : Int} (hp : p = 0 ∨ p = 1) {I T : BitVec 256} (hI : ∀ i, Bit I i → i < g.owner.length) (hg : Goes g (Bit I)) {m : List Int} (hm : Played g (I &&& full g.owner.length) p T m) {i : Nat} (hi : Bit I i) (hT : Bit T i) :
    (∀ j, Bit (I &&& ~~~(attOf g I p T)) j → j < g.owner.length) ∧ Goes g (Bit (I &&& ~~~(attOf g I p T))) ∧ cntS g.owner.length (I &&& ~~~(attOf g I p T)) + 1 ≤ cntS g.owner.length I := by
  obtain ⟨-, ⟨rk, hA⟩, -, -⟩ := played_attr hr hp hI hg hm
  refine ⟨fun j hj => hI j ((bit_minus j).1 hj).1, fun j hj => ?_, cntS_less (hI i hi) hi (hA.base i hi hT)⟩
  obtain ⟨y, h1, h2⟩ := hA.goes hg j ((bit_minus j).1 hj)
  exact ⟨y, h1, (bit_minus y).2 h2⟩
theorem ap_part0 {g : G} (hr : g.Right) {I T : BitVec 256} (hI : ∀ i, Bit I i → i < g.owner.length) (hg : Goes g (Bit I)) {c m c' m2 c'' : List Int} {V L W2 V2 : BitVec 256} (hc : c.length = g.owner.length) (hm : Played g (I &&& full g.owner.length) 0 T m)
    (h : Ap g 0 (I &&& ~~~(attOf g I 0 T)) V L (frc c m) c') (hm2 : Played g (I &&& full g.owner.length) 1 L m2) (h2 : Ap g 0 (I &&& ~~~(attOf g I 1 L)) W2 V2 (frc c' m2) c'') : Ap g 0 I W2 (V2 ||| attOf g I 1 L) c c'' := by
  have e : (1 : Int) - 0 = 1 := by decide
  have k := ap_part hr (p := 0) (m2 := m2) (c'' := c'') (W2 := W2) (V2 := V2) (.inl rfl) hI hg hc hm h (by rw [e]; exact hm2) (by rw [e]; exact h2)
  rw [e] at k
  exact k
theorem ap_part1 {g : G} (hr : g.Right) {I T : BitVec 256} (hI : ∀ i, Bit I i → i < g.owner.length) (hg : Goes g (Bit I)) {c m c' m2 c'' : List Int} {V L W2 V2 : BitVec 256} (hc : c.length = g.owner.length) (hm : Played g (I &&& full g.owner.length) 1 T m)
    (h : Ap g 0 (I &&& ~~~(attOf g I 1 T)) L V (frc c m) c') (hm2 : Played g (I &&& full g.owner.length) 0 L m2) (h2 : Ap g 0 (I &&& ~~~(attOf g I 0 L)) V2 W2 (frc c' m2) c'') : Ap g 0 I (V2 ||| attOf g I 0 L) W2 c c'' := by
  have e : (1 : Int) - 1 = 0 := by decide
  have k := ap_part hr (p := 1) (m2 := m2) (c'' := c'') (W2 := W2) (V2 := V2) (.inr rfl) hI hg hc hm h.swap0 (by rw [e]; exact hm2) (by rw [e]; exact h2.swap0)
  rw [e] at k
  exact k.swap1
theorem bit_some {s : BitVec 256} (h : s ≠ 0#256) : ∃ i, Bit s i := Classical.byContradiction fun hc => h (bit_none fun i hi => hc ⟨i, hi⟩)
end P
namespace W
/-- Two sets, as a value's cells. -/
def pv (s t : BitVec 256) : Array Value := #[.int .u64 (P.wrd s 0), .int .u64 (P.wrd s 1), .int .u64 (P.wrd s 2), .int .u64 (P.wrd s 3), .int .u64 (P.wrd t 0), .int .u64 (P.wrd t 1), .int .u64 (P.wrd t 2), .int .u64 (P.wrd t 3)]
theorem kn_set (w : World) (q j : Nat) (u : Value) : Rk.Keeps (KN [q]) w (w.setCell ⟨q, j, none⟩ u) := ⟨rfl, rfl, rfl, by simp [World.setCell], fun k ob hob hk => by
  rw [Below.heap_setCell w ⟨q, j, none⟩ u k (fun e => hk (by simp [e]))]
  exact hob⟩
theorem kn_alloc (X : List Nat) (w : World) (ob : Obj) : Rk.Keeps (KN X) w (w.alloc ob) := Rk.keep_weak (Rk.keep_of (World.grownBy_alloc w ob none))
theorem box8 {w : World} {q : Nat} {t : TypeId} {a0 a1 a2 a3 a4 a5 a6 a7 : Value} (h : Box w q t #[a0, a1, a2, a3, a4, a5, a6, a7]) (b0 b1 b2 b3 b4 b5 b6 b7 : Value) : Box ((((((((w.setCell ⟨q, 0, none⟩ b0).setCell ⟨q, 1, none⟩ b1).setCell ⟨q, 2, none⟩ b2).setCell ⟨q, 3, none⟩ b3).setCell ⟨q, 4, none⟩ b4).setCell ⟨q, 5, none⟩ b5).setCell ⟨q, 6, none⟩ b6).setCell ⟨q, 7, none⟩ b7) q t #[b0, b1, b2, b3, b4, b5, b6, b7] := by
  have := ((((((((h.set 0 b0).set 1 b1).set 2 b2).set 3 b3).set 4 b4).set 5 b5).set 6 b6).set 7 b7)
  simpa only [List.setIfInBounds_toArray, List.set_cons_succ, List.set_cons_zero] using this
theorem box4lo {w : World} {q : Nat} {t : TypeId} {a0 a1 a2 a3 a4 a5 a6 a7 : Value} (h : Box w q t #[a0, a1, a2, a3, a4, a5, a6, a7]) (b0 b1 b2 b3 : Value) : Box ((((w.setCell ⟨q, 0, none⟩ b0).setCell ⟨q, 1, none⟩ b1).setCell ⟨q, 2, none⟩ b2).setCell ⟨q, 3, none⟩ b3) q t #[b0, b1, b2, b3, a4, a5, a6, a7] := by
  have := ((((h.set 0 b0).set 1 b1).set 2 b2).set 3 b3)
  simpa only [List.setIfInBounds_toArray, List.set_cons_succ, List.set_cons_zero] using this
theorem box4hi {w : World} {q : Nat} {t : TypeId} {a0 a1 a2 a3 a4 a5 a6 a7 : Value} (h : Box w q t #[a0, a1, a2, a3, a4, a5, a6, a7]) (b0 b1 b2 b3 : Value) : Box ((((w.setCell ⟨q, 4, none⟩ b0).setCell ⟨q, 5, none⟩ b1).setCell ⟨q, 6, none⟩ b2).setCell ⟨q, 7, none⟩ b3) q t #[a0, a1, a2, a3, b0, b1, b2, b3] := by
  have := ((((h.set 4 b0).set 5 b1).set 6 b2).set 7 b3)
  simpa only [List.setIfInBounds_toArray, List.set_cons_succ, List.set_cons_zero] using this
theorem box4 {w : World} {q : Nat} {t : TypeId} {a0 a1 a2 a3 : Value} (h : Box w q t #[a0, a1, a2, a3]) (b0 b1 b2 b3 : Value) : Box ((((w.setCell ⟨q, 0, none⟩ b0).setCell ⟨q, 1, none⟩ b1).setCell ⟨q, 2, none⟩ b2).setCell ⟨q, 3, none⟩ b3) q t #[b0, b1, b2, b3] := (((h.set 0 b0).set 1 b1).set 2 b2).set 3 b3
theorem box5 {w : World} {q : Nat} {t : TypeId} {a0 a1 a2 a3 a4 : Value} (h : Box w q t #[a0, a1, a2, a3, a4]) (b0 b1 b2 b3 b4 : Value) : Box (((((w.setCell ⟨q, 0, none⟩ b0).setCell ⟨q, 1, none⟩ b1).setCell ⟨q, 2, none⟩ b2).setCell ⟨q, 3, none⟩ b3).setCell ⟨q, 4, none⟩ b4) q t #[b0, b1, b2, b3, b4] := by
  have := (((((h.set 0 b0).set 1 b1).set 2 b2).set 3 b3).set 4 b4)
  simpa only [List.setIfInBounds_toArray, List.set_cons_succ, List.set_cons_zero] using this
section
variable {w0 w w' : World} {qs pc n kq q : Nat} {va vb vc : Value} {c : List Int} {d : Int}
theorem kn_below {B : Nat} (h : Rk.Keeps (KN [q]) w w') (hB : B ≤ q) (hBw : B ≤ w.heap.size) : Below B w w' := ⟨h.os, h.tape, h.output, h.size, fun k hk => by
  have hlt : k < w.heap.size := by omega
  rw [h.block k _ (Array.getElem?_eq_getElem hlt) (by intro e; have := List.mem_singleton.1 e; omega)]
  exact (Array.getElem?_eq_getElem hlt).symm⟩
theorem kn_own {lo : Nat} {e : TypeId} {v : Value} {m : Nat} {xs : List Value} (ho : w.ownsRow lo e 1 v m xs) (h : Rk.Keeps (KN [q]) w w') (hv : v.ownBlock ≠ some q) : w'.ownsRow lo e 1 v m xs := by
  refine ⟨ho.1, ?_⟩
  rcases ho.2 with h1 | ⟨g, cap, cur, h1, h2, h3, h4⟩
  · exact .inl h1
  · exact .inr ⟨g, cap, cur, h1, h2, h.block g _ h3 (fun e => hv (by rw [h1, ← List.mem_singleton.1 e]; rfl)), h4⟩
theorem Sl.kn (h : Sl w0 w qs pc n kq va vb vc c d) (k : Rk.Keeps (KN [q]) w w') (h1 : qs ≠ q) (h2 : pc ≠ q) (h3 : w0.heap.size ≤ q) : Sl w0 w' qs pc n kq va vb vc c d :=
  ⟨kn_box k h.box (by simp [h1]), kn_own h.row k (fun e => by injection e with e; exact h2 e), h.low.trans (kn_below k h3 h.low.size), h.lo⟩
theorem SlK.one {w1 : World} (h : SlK qs pc w1 w) (k : Rk.Keeps (KN [q]) w w') (hq : w1.heap.size ≤ q) : SlK qs pc w1 w' := Rk.Keeps.trans h ⟨k.os, k.tape, k.output, k.size, fun b ob hob hb => k.block b ob hob (fun e => by have := List.mem_singleton.1 e; have := hb.1; omega)⟩
/-- A solver whose struct and row may have turned, as it is said to be, at a later world. -/
theorem Sl.ne_q (h : Sl w0 w qs pc n kq va vb vc c d) (hq : w.heap.size ≤ q) : q ≠ qs ∧ q ≠ pc := by
  have h1 := h.box.lt
  have h2 := h.plo.2
  omega
end
end W
end Go.Proofs.YtpjmboonaciplaaDoor
