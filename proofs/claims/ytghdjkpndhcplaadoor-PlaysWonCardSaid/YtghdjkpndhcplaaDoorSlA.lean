/- What Solve's solver keeps in memory. The first of some numbers that a set has: IndexFunc of the set's Has. A row of -1s. The positions of a part's highest priority: the solver's walk. A player forces its way: the solver's walk. Moves that stay in a part: the solver's walk. What taking a part apart wants: frames, and the plain steps. -/
import Derived.Test.YtghdjkpndhcplaaDoorDecA
import Derived.Test.YtghdjkpndhcplaaDoorGrowR
import Derived.Test.YtghdjkpndhcplaaDoorHep
import Derived.Test.YtghdjkpndhcplaaDoorAttM
import Derived.Deep.Cut
import Derived.Lib.Hide
import Derived.Deep.QuietTactic
import Derived.BigQuiet
import Derived.StillTailTactics
import Derived.Test.YtghdjkpndhcplaaDoorMemA
import Derived.Test.YtghdjkpndhcplaaDoorMoves
import Derived.Test.YtghdjkpndhcplaaDoorAttA
import Derived.Test.YtghdjkpndhcplaaDoorOwA
import Derived.Test.YtghdjkpndhcplaaDoorList
import Derived.Test.YtghdjkpndhcplaaDoorRight
import Derived.Test.YtghdjkpndhcplaaDoorAttract
import Derived.Test.YtghdjkpndhcplaaDoorRegionZ
import Derived.Test.YtghdjkpndhcplaaDoorReg
import Derived.Test.YtghdjkpndhcplaaDoorEq
section
namespace Go.Proofs.YtghdjkpndhcplaaDoor
open Go.RowKit
namespace W

/-- The solver in memory: its game, the moves that are chosen, how deep it went. -/
structure Sl (w0 w : World) (qs pc n kq : Nat) (va vb vc : Value) (c : List Int) (d : Int) : Prop where
  box : Box w qs 49 #[va, vb, vc, .slice (some ⟨pc, 0, none⟩) n kq, .int .i64 d]
  row : w.ownsRow w0.heap.size 3 1 (.slice (some ⟨pc, 0, none⟩) n kq) n (c.map (Value.int .i64))
  low : Below w0.heap.size w0 w
  lo : w0.heap.size ≤ qs
section
variable {w0 w w' : World} {qs pc n kq : Nat} {va vb vc : Value} {c : List Int} {d : Int}
theorem Sl.len (h : Sl w0 w qs pc n kq va vb vc c d) : c.length = n := by have := h.row.1; rw [List.length_map] at this; omega
theorem Sl.ne (h : Sl w0 w qs pc n kq va vb vc c d) : qs ≠ pc := fun e => own_box h.row h.box (by decide) (by rw [e]; rfl)
theorem Sl.plo (h : Sl w0 w qs pc n kq va vb vc c d) : w0.heap.size ≤ pc ∧ pc < w.heap.size := own_lt h.row pc rfl
theorem Sl.on (h : Sl w0 w qs pc n kq va vb vc c d) (hb : Below w.heap.size w w') : Sl w0 w' qs pc n kq va vb vc c d :=
  ⟨h.box.keep (grown_of_below hb none), own_grown h.row (grown_of_below hb none), h.low.trans (hb.mono h.low.size), h.lo⟩
theorem Sl.set (h : Sl w0 w qs pc n kq va vb vc c d) (j : Nat) (z : Int) : Sl w0 (w.setCell ⟨pc, j, none⟩ (.int .i64 z)) qs pc n kq va vb vc (c.set j z) d :=
  ⟨h.box.far (p := ⟨pc, j, none⟩) h.ne _, by have := (h.row.stored j (.int .i64 z)).1; rw [List.map_set]; exact this, h.low.setCell (p := ⟨pc, j, none⟩) h.plo.1 _, h.lo⟩
theorem Sl.deep (h : Sl w0 w qs pc n kq va vb vc c d) (z : Int) : Sl w0 (w.setCell ⟨qs, 4, none⟩ (.int .i64 z)) qs pc n kq va vb vc c z :=
  ⟨h.box.set 4 (.int .i64 z), own_kept h.row (grown_set w ⟨qs, 4, none⟩ _) (.inr fun e => by injection e with e; exact h.ne e.symm), h.low.setCell (p := ⟨qs, 4, none⟩) h.lo _, h.lo⟩
/-- Another block is written. -/
theorem Sl.far (h : Sl w0 w qs pc n kq va vb vc c d) {q : Nat} (h1 : qs ≠ q) (h2 : pc ≠ q) (h3 : w0.heap.size ≤ q) (j : Nat) (u : Value) : Sl w0 (w.setCell ⟨q, j, none⟩ u) qs pc n kq va vb vc c d :=
  ⟨h.box.far (p := ⟨q, j, none⟩) h1 _, own_kept h.row (grown_set w ⟨q, j, none⟩ _) (.inr fun e => by injection e with e; exact h2 e), h.low.setCell (p := ⟨q, j, none⟩) h3 _, h.lo⟩
theorem Sl.cellc (h : Sl w0 w qs pc n kq va vb vc c d) {j : Nat} (hj : j < n) : w.cell? ⟨pc, j, none⟩ = some (.int .i64 (c.getD j (-1))) ∧ w.frozen? ⟨pc, j, none⟩ = false := by
  refine ⟨?_, h.row.frozenAt j⟩
  have hl := h.len
  rw [h.row.cellAt j (by omega), List.getElem?_map, List.getD_eq_getElem?_getD, List.getElem?_eq_getElem (by omega)]
  rfl
/-- What the solver's own calls may turn: its struct and its row. -/
def SlK (qs pc : Nat) (w w' : World) : Prop := Rk.Keeps (KX w.heap.size [qs, pc]) w w'
theorem SlK.refl (qs pc : Nat) (w : World) : SlK qs pc w w := Rk.Keeps.refl _ _
theorem SlK.trans {w1 w2 w3 : World} (h : SlK qs pc w1 w2) (k : SlK qs pc w2 w3) : SlK qs pc w1 w3 := Rk.Keeps.trans h (kx_more k h.size fun _ hx => .inl hx)
theorem SlK.of (hb : Below w.heap.size w w') : SlK qs pc w w' := kx_below_of hb
theorem SlK.box (h : SlK qs pc w w') {b : Nat} {t : TypeId} {cs : Array Value} (hb : Box w b t cs) (h1 : b ≠ qs) (h2 : b ≠ pc) : Box w' b t cs := kx_box h hb hb.lt (by simp [h1, h2])
theorem SlK.set {q : Nat} (hq : q = qs ∨ q = pc) (j : Nat) (u : Value) : SlK qs pc w (w.setCell ⟨q, j, none⟩ u) := kx_set w (.inl (by rcases hq with rfl | rfl <;> simp)) j u
/-- What is new may be written, too. -/
theorem SlK.fresh {w1 : World} {q : Nat} (h : SlK qs pc w1 w) (hq : w1.heap.size ≤ q) (j : Nat) (u : Value) : SlK qs pc w1 (w.setCell ⟨q, j, none⟩ u) := Rk.Keeps.trans h (kx_set w (.inr hq) j u)
theorem SlK.alloc {w1 : World} (h : SlK qs pc w1 w) (ob : Obj) : SlK qs pc w1 (w.alloc ob) := h.trans (SlK.of ((Below.refl w.heap.size w).alloc (Nat.le_refl _) ob))
theorem SlK.low {B : Nat} (h : SlK qs pc w w') (h1 : B ≤ qs) (h2 : B ≤ pc) (hB : B ≤ w.heap.size) : Below B w w' := kx_below h (by intro x hx; simp at hx; omega) hB (Nat.le_refl _)
end
/-- Where a fresh set may be written: what was there stays, and all rows of numbers. -/
def KI (N : Nat) : Nat → Obj → Prop := fun k ob => k < N ∨ ∃ cs, ob = .cells cs 3 (0, 0)
theorem ki_box {w w' : World} {N b : Nat} {t : TypeId} {cs : Array Value} (h : Rk.Keeps (KI N) w w') (hb : Box w b t cs) (h1 : b < N) : Box w' b t cs := h.block b _ hb (.inl h1)
theorem ki_own {w w' : World} {N lo n : Nat} {v : Value} {xs : List Value} (ho : w.ownsRow lo 3 1 v n xs) (h : Rk.Keeps (KI N) w w') : w'.ownsRow lo 3 1 v n xs := by
  refine ⟨ho.1, ?_⟩
  rcases ho.2 with h1 | ⟨g, cap, cur, h1, h2, h3, h4⟩
  · exact .inl h1
  · exact .inr ⟨g, cap, cur, h1, h2, h.block g _ h3 (.inr ⟨cur, rfl⟩), h4⟩
theorem ki_below {w w' : World} {N : Nat} (h : Rk.Keeps (KI N) w w') (hN : N ≤ w.heap.size) : Below N w w' := ⟨h.os, h.tape, h.output, h.size, fun k hk => by
  have hlt : k < w.heap.size := by omega
  rw [h.block k _ (Array.getElem?_eq_getElem hlt) (.inl hk)]
  exact (Array.getElem?_eq_getElem hlt).symm⟩
theorem ki_set {w : World} {N q : Nat} {t : TypeId} {cs : Array Value} (hq : N ≤ q) (hb : Box w q t cs) (ht : t ≠ 3) (j : Nat) (u : Value) : Rk.Keeps (KI N) w (w.setCell ⟨q, j, none⟩ u) := ⟨rfl, rfl, rfl, by simp [World.setCell], fun k ob hob hk => by
  have hne : k ≠ q := by
    rintro rfl
    rcases hk with hk | ⟨cs', rfl⟩
    · omega
    · unfold Box at hb
      rw [hob] at hb
      injection hb with hb
      injection hb with _ e2
      exact ht e2.symm
  rw [Below.heap_setCell w ⟨q, j, none⟩ u k hne]
  exact hob⟩
theorem ki_set4 {w : World} {N q : Nat} {t : TypeId} {cs : Array Value} (hq : N ≤ q) (hb : Box w q t cs) (ht : t ≠ 3) (u0 u1 u2 u3 : Value) : Rk.Keeps (KI N) w ((((w.setCell ⟨q, 0, none⟩ u0).setCell ⟨q, 1, none⟩ u1).setCell ⟨q, 2, none⟩ u2).setCell ⟨q, 3, none⟩ u3) :=
  (((ki_set hq hb ht 0 u0).trans (ki_set hq (hb.set 0 u0) ht 1 u1)).trans (ki_set hq ((hb.set 0 u0).set 1 u1) ht 2 u2)).trans (ki_set hq (((hb.set 0 u0).set 1 u1).set 2 u2) ht 3 u3)
/-- All but some blocks. -/
def KN (X : List Nat) : Nat → Obj → Prop := fun k _ => k ∉ X
theorem kn_box {w w' : World} {b : Nat} {X : List Nat} {t : TypeId} {cs : Array Value} (h : Rk.Keeps (KN X) w w') (hb : Box w b t cs) (h1 : b ∉ X) : Box w' b t cs := h.block b _ hb h1
theorem SlK.kn {w w' : World} {qs pc : Nat} (h : SlK qs pc w w') : Rk.Keeps (KN [qs, pc]) w w' := ⟨h.os, h.tape, h.output, h.size, fun k ob hob hk => h.block k ob hob ⟨(Array.getElem?_eq_some_iff.1 hob).1, hk⟩⟩
theorem kn_slk {w w' : World} {qs pc : Nat} (h : Rk.Keeps (KN [qs, pc]) w w') : SlK qs pc w w' := ⟨h.os, h.tape, h.output, h.size, fun k ob hob hk => h.block k ob hob hk.2⟩
end W
end Go.Proofs.YtghdjkpndhcplaaDoor
end
section
namespace Go.Proofs.YtghdjkpndhcplaaDoor
open Go.RowKit
namespace W

end W
namespace P
theorem first_none {I : BitVec 256} {l : List Int} (h : ∀ j, j < l.length → has I (l.getD j 0) = false) : first I l = none := by
  unfold first
  rw [List.find?_eq_none]
  intro x hx
  obtain ⟨j, hj, rfl⟩ := List.mem_iff_getElem.1 hx
  have := h j hj
  rw [List.getD_eq_getElem?_getD, List.getElem?_eq_getElem hj] at this
  rw [show has I l[j] = false from this]
  simp
theorem first_at {I : BitVec 256} {l : List Int} {k : Nat} (h : ∀ j, j < k → has I (l.getD j 0) = false) (hk : k < l.length) (hx : has I (l.getD k 0) = true) : first I l = some (l.getD k 0) := by
  have e : ∀ j (hj : j < l.length), l.getD j 0 = l[j] := fun j hj => by rw [List.getD_eq_getElem?_getD, List.getElem?_eq_getElem hj]; rfl
  unfold first
  rw [List.find?_eq_some_iff_getElem]
  refine ⟨hx, k, hk, (e k hk).symm, fun j hj => ?_⟩
  rw [← e j (by omega), h j hj]
  rfl
end P
namespace W
set_option maxRecDepth 100000 in
set_option maxHeartbeats 4000000 in
theorem indexf_any (l : List Int) (I : BitVec 256) (v : Value) (w : World) (hv : Ints w v l) : Calls Tryd.prog 34 #[v, .func (.func 35) #[.agg #[.int .u64 (P.wrd I 0), .int .u64 (P.wrd I 1), .int .u64 (P.wrd I 2), .int .u64 (P.wrd I 3)]] #[]] w fun e w' => ∃ z : Int, e = .returned (.int .i64 z) ∧ ((z = -1 ∧ P.first I l = none) ∨ ∃ k : Nat, k < l.length ∧ z = (k : Int) ∧ P.first I l = some (l.getD k 0)) ∧ Below w.heap.size w w' := by
  obtain ⟨n, hn⟩ : ∃ n, l.length = n := ⟨_, rfl⟩
  obtain ⟨ao, ka, rfl, hlen, hc⟩ := hv
  rw [hn] at hlen hc ⊢
  have HLN := Lib.hid hn
  by_cases hnil : l = []
  · have h0 : n = 0 := by rw [← hn, hnil]; rfl
    clear hc hnil hn
    rw [h0] at HLN ⊢
    clear h0 hlen
    go_enter Tryd.func34, Tryd.ntmps34
    go_wp2_with fail
    go_loopw [8] (fun i wr => ∃ k : Nat, k ≤ 0 ∧ i = .int .i64 (k : Int) ∧ (∀ j, j < k → P.has I (l.getD j 0) = false) ∧ Below w.heap.size w wr) (fun i _ => 0 - (intOf i).toNat)
    case atStart => exact ⟨0, Nat.zero_le _, rfl, fun j h => absurd h (Nat.not_lt_zero j), Below.refl _ _⟩
    case round =>
      obtain ⟨k, hk, rfl, hall, hb⟩ := hrel
      have HA := Lib.hid hall
      have W := Lib.hid hb
      clear hall hb
      have hk0 : (0 : Int) ≤ (k : Int) := Int.natCast_nonneg _
      have fk : decide ((k : Int) < 0) = false := decide_eq_false (by omega)
      have HNO := Lib.hid (P.first_none (I := I) (l := l) fun j hj => HA.out j (by have := HLN.out; omega))
      go_wp2_with fail
      exact bodyPost_ret (v := .int .i64 (-1)) (by simp [results, Tryd.results34, go_sem]) rfl ⟨_, rfl, .inl ⟨rfl, HNO.out⟩, W.out⟩
  · obtain ⟨b, off, rfl, hb, hcc⟩ := hc.resolve_left hnil
    have HBB := Lib.hid hb
    have HCC := Lib.hid hcc
    clear hc hnil hb hcc hn
    go_enter Tryd.func34, Tryd.ntmps34
    go_wp2_with fail
    go_loopw [8] (fun i wr => ∃ k : Nat, k ≤ n ∧ i = .int .i64 (k : Int) ∧ (∀ j, j < k → P.has I (l.getD j 0) = false) ∧ Below w.heap.size w wr) (fun i _ => n - (intOf i).toNat)
    case atStart => exact ⟨0, Nat.zero_le _, rfl, fun j h => absurd h (Nat.not_lt_zero j), Below.refl _ _⟩
    case round =>
      obtain ⟨k, hk, rfl, hall, hb⟩ := hrel
      have HA := Lib.hid hall
      have W := Lib.hid hb
      clear hall hb
      have hk0 : (0 : Int) ≤ (k : Int) := Int.natCast_nonneg _
      by_cases hlt : k < n
      · have fk : decide ((k : Int) < (n : Int)) = true := decide_eq_true (by omega)
        have hki : (k : Int) < (n : Int) := by omega
        have hc := (W.out.cell (p := ⟨b, off + k, none⟩) HBB.out).trans (HCC.out k hlt)
        obtain ⟨x, hx⟩ : ∃ x, l.getD k 0 = x := ⟨_, rfl⟩
        rw [hx] at hc
        have HX := Lib.hid hx
        clear hx
        go_wp2_with fail
        clear hc
        refine (has_any I x wr).mono ?_
        rintro e w2 ⟨rfl, hb⟩
        replace W := Lib.hid (W.out.trans (hb.mono W.out.size))
        clear hb
        cases hh : P.has I x
        · have HA2 := Lib.hid (show ∀ j, j < k + 1 → P.has I (l.getD j 0) = false from fun j hj => by
            by_cases e : j = k
            · rw [e, HX.out]; exact hh
            · exact HA.out j (by omega))
          clear hh
          go_wp2_with fail
          go_roundw
          case rel => exact ⟨k + 1, by omega, by first | rfl | go_num, HA2.out, W.out⟩
          case measure => simp [intOf]; omega
        · have HF := Lib.hid (P.first_at (I := I) (l := l) HA.out (by rw [HLN.out]; exact hlt) (by rw [HX.out]; exact hh))
          clear hh
          go_wp2_with fail
          exact bodyPost_ret (v := .int .i64 (k : Int)) (by simp [results, Tryd.results34, go_sem]) rfl ⟨_, rfl, .inr ⟨k, hlt, rfl, HF.out⟩, W.out⟩
      · have fk : decide ((k : Int) < (n : Int)) = false := decide_eq_false (by omega)
        have HNO := Lib.hid (P.first_none (I := I) (l := l) fun j hj => HA.out j (by have := HLN.out; omega))
        go_wp2_with fail
        exact bodyPost_ret (v := .int .i64 (-1)) (by simp [results, Tryd.results34, go_sem]) rfl ⟨_, rfl, .inl ⟨rfl, HNO.out⟩, W.out⟩
end W
end Go.Proofs.YtghdjkpndhcplaaDoor
end
section
namespace Go.Proofs.YtghdjkpndhcplaaDoor
open Go.RowKit
namespace W

set_option maxRecDepth 100000 in
set_option maxHeartbeats 1000000 in
theorem filled_any (n : Nat) (hn : n ≤ 200) (w : World) : Calls Tryd.prog 12 #[.int .i64 (n : Int)] w fun e w' => ∃ b, e = .returned (.slice (some ⟨b, 0, none⟩) n n) ∧ OwnI w' w.heap.size (.slice (some ⟨b, 0, none⟩) n n) (P.rowOf n fun _ => -1) ∧ Below w.heap.size w w' := by
  go_enter Tryd.func12, Tryd.ntmps12
  go_wp2_with (refine wpl_make elInt rfl (.tmp 5) (.tmp 5) rfl n rfl rfl (by omega) (by omega) ?_; intro w7 hown7 hg7 hs7)
  have HO7 := Lib.hid hown7
  have HG7 := Lib.hid (below_of_grown hg7)
  clear hown7 hg7 hs7
  obtain ⟨pm, hpm⟩ : ∃ pm, w.heap.size = pm := ⟨_, rfl⟩
  rw [hpm] at HO7 HG7 ⊢
  have HPM := Lib.hid hpm
  clear hpm
  go_wp2_with fail
  go_loopw [9] (fun i wr => ∃ k : Nat, k ≤ n ∧ i = .int .i64 (k : Int) ∧ OwnI wr pm (.slice (some ⟨pm, 0, none⟩) n n) (P.rowOf n (fun y => if y < k then -1 else 0)) ∧ Below pm w wr) (fun i _ => n - (intOf i).toNat)
  case atStart =>
    refine ⟨0, Nat.zero_le _, rfl, ?_, HG7.out⟩
    have h := HO7.out
    unfold OwnI
    rw [P.rowOf_len]
    have e : (P.rowOf n (fun y => if y < 0 then -1 else 0)).map (Value.int .i64) = List.replicate n (.int .i64 0) := by
      unfold P.rowOf
      rw [List.map_map]
      apply List.ext_getElem?
      intro i
      rw [List.getElem?_map, List.getElem?_replicate]
      by_cases hi : i < n
      · rw [List.getElem?_range hi, if_pos hi]; simp
      · rw [List.getElem?_eq_none (by simpa using hi), if_neg hi]; rfl
    rw [e]
    exact h
  case round =>
    obtain ⟨k, hk, rfl, hown, hgr⟩ := hrel
    have HOW := Lib.hid hown
    have HGR := Lib.hid hgr
    clear hown hgr
    have hk0 : (0 : Int) ≤ (k : Int) := Int.natCast_nonneg _
    by_cases hlt : k < n
    · have fk : decide ((k : Int) < (n : Int)) = true := decide_eq_true (by omega)
      have hki : (k : Int) < (n : Int) := by omega
      obtain ⟨ck, fz⟩ := rowOf_cell HOW.out hlt
      have HREL := Lib.hid (show OwnI (wr.setCell ⟨pm, k, none⟩ (.int .i64 (-1))) pm (.slice (some ⟨pm, 0, none⟩) n n) (P.rowOf n (fun y => if y < k + 1 then -1 else 0)) from by
        have h := HOW.out.put k (-1)
        rw [P.rowOf_set] at h
        rw [show P.rowOf n (fun y => if y < k + 1 then (-1 : Int) else 0) = P.rowOf n (fun y => if y = k then -1 else if y < k then -1 else 0) from P.rowOf_congr fun y _ => by
          by_cases e : y = k
          · rw [if_pos (by omega), if_pos e]
          · rw [if_neg e]
            by_cases e2 : y < k
            · rw [if_pos (by omega), if_pos e2]
            · rw [if_neg (by omega), if_neg e2]]
        exact h)
      have HG2 := Lib.hid (HGR.out.setCell (p := ⟨pm, k, none⟩) (Nat.le_refl _) (.int .i64 (-1)))
      go_wp2_with fail
      go_roundw
      case rel => exact ⟨k + 1, by omega, by go_num, HREL.out, HG2.out⟩
      case measure => simp [intOf]; omega
    · have fk : decide ((k : Int) < (n : Int)) = false := decide_eq_false (by omega)
      have HMV := Lib.hid (show OwnI wr pm (.slice (some ⟨pm, 0, none⟩) n n) (P.rowOf n (fun _ => -1)) from by
        rw [show P.rowOf n (fun _ => (-1 : Int)) = P.rowOf n (fun y => if y < k then -1 else 0) from P.rowOf_congr fun y hy => by rw [if_pos (by omega)]]
        exact HOW.out)
      go_wp2_with fail
      exact bodyPost_ret (v := (.slice (some ⟨pm, 0, none⟩) n n)) (by simp [results, Tryd.results12, go_sem]) rfl ⟨pm, rfl, by rw [HPM.out]; exact HMV.out, by rw [HPM.out]; exact HGR.out⟩
end W
end Go.Proofs.YtghdjkpndhcplaaDoor
end
section
namespace Go.Proofs.YtghdjkpndhcplaaDoor
open Go.RowKit
namespace W

set_option maxRecDepth 100000 in
set_option maxHeartbeats 8000000 in
theorem top_any (g : P.G) (hr : g.Right) (n : Nat) (hn : g.owner.length = n) (w0 : World) (ba oa ka bb ob kb bc_ oc kc : Nat) (hv : GameV w0 (.agg #[.slice (some ⟨ba, oa, none⟩) n ka, .slice (some ⟨bb, ob, none⟩) n kb, .slice (some ⟨bc_, oc, none⟩) n kc]) g) (hT : Tab w0) (qs pc kq : Nat) (c : List Int) (d : Int) (w : World) (hS : Sl w0 w qs pc n kq (.slice (some ⟨ba, oa, none⟩) n ka) (.slice (some ⟨bb, ob, none⟩) n kb) (.slice (some ⟨bc_, oc, none⟩) n kc) c d) (I : BitVec 256) (hI : ∀ i, P.Bit I i → i < n) (hne : I ≠ 0#256) :
    Calls Tryd.prog 22 #[.pointer (some ⟨qs, 0, none⟩), .agg #[.int .u64 (P.wrd I 0), .int .u64 (P.wrd I 1), .int .u64 (P.wrd I 2), .int .u64 (P.wrd I 3)]] w fun e w' => ∃ (z : Int) (To : BitVec 256), e = .returned (.tuple #[.agg #[.int .u64 (P.wrd To 0), .int .u64 (P.wrd To 1), .int .u64 (P.wrd To 2), .int .u64 (P.wrd To 3)], .int .i64 (z % 2)]) ∧ (∀ i, P.Bit To i ↔ P.Bit I i ∧ g.prio.getD i 0 = z) ∧ (∀ i, P.Bit I i → g.prio.getD i 0 ≤ z) ∧ (∃ i, P.Bit To i) ∧ 0 ≤ z ∧ Below w.heap.size w w' := by
  have HV := Lib.hid hv
  have T := Lib.hid hT
  have HR := Lib.hid hr
  have HN := Lib.hid hn
  have hop := hr.prio
  have hmp := hr.moves
  have hmany := hr.many
  have h0 := hr.pos
  rw [hn] at hop hmp hmany h0
  have HPN := Lib.hid hop
  obtain ⟨xba, xoa, xka, xbb, xob, xkb, xbc, xoc, xkc, e0, hca, hcb, hcc⟩ := hv.open_ hn hop hmp h0
  injection e0 with e0
  obtain ⟨⟨⟨rfl, rfl⟩, rfl⟩, ⟨⟨rfl, rfl⟩, rfl⟩, ⟨rfl, rfl⟩, rfl⟩ : (((ba = xba ∧ oa = xoa) ∧ ka = xka) ∧ ((bb = xbb ∧ ob = xob) ∧ kb = xkb) ∧ (bc_ = xbc ∧ oc = xoc) ∧ kc = xkc) := by simpa using e0
  have HCA := Lib.hid hca
  have HCB := Lib.hid hcb
  have HCC := Lib.hid hcc
  clear e0 hca hcb hcc hv hT hr hn hop hmp
  have HS := Lib.hid hS
  have HLW : Hid (w0.heap.size ≤ w.heap.size) := Lib.hid hS.low.size
  have HQW : Hid (qs < w.heap.size) := Lib.hid hS.box.lt
  have HI := Lib.hid hI
  have HNE := Lib.hid hne
  clear hS hI hne
  go_enter Tryd.func22, Tryd.ntmps22
  go_wp2_with fail
  have bx0 : Box ((w.alloc (.cells #[.int .u64 (P.wrd I 0), .int .u64 (P.wrd I 1), .int .u64 (P.wrd I 2), .int .u64 (P.wrd I 3)] 37)).alloc (.cells #[.int .u64 0, .int .u64 0, .int .u64 0, .int .u64 0] 37)) (w.heap.size) 37 #[.int .u64 (P.wrd I 0), .int .u64 (P.wrd I 1), .int .u64 (P.wrd I 2), .int .u64 (P.wrd I 3)] := Box.alloc (Box.new w 37 #[.int .u64 (P.wrd I 0), .int .u64 (P.wrd I 1), .int .u64 (P.wrd I 2), .int .u64 (P.wrd I 3)]) (.cells #[.int .u64 0, .int .u64 0, .int .u64 0, .int .u64 0] 37)
  have bx1 : Box ((w.alloc (.cells #[.int .u64 (P.wrd I 0), .int .u64 (P.wrd I 1), .int .u64 (P.wrd I 2), .int .u64 (P.wrd I 3)] 37)).alloc (.cells #[.int .u64 0, .int .u64 0, .int .u64 0, .int .u64 0] 37)) (w.heap.size + 1) 37 #[.int .u64 0, .int .u64 0, .int .u64 0, .int .u64 0] := by
    have := Box.new (w.alloc (.cells #[.int .u64 (P.wrd I 0), .int .u64 (P.wrd I 1), .int .u64 (P.wrd I 2), .int .u64 (P.wrd I 3)] 37)) 37 #[.int .u64 0, .int .u64 0, .int .u64 0, .int .u64 0]
    simpa using this
  have hbq : Below w.heap.size w ((w.alloc (.cells #[.int .u64 (P.wrd I 0), .int .u64 (P.wrd I 1), .int .u64 (P.wrd I 2), .int .u64 (P.wrd I 3)] 37)).alloc (.cells #[.int .u64 0, .int .u64 0, .int .u64 0, .int .u64 0] 37)) := ((Below.refl _ w).alloc (Nat.le_refl _) _).alloc (by simp) _
  have lt0 : w.heap.size < w.heap.size + 1 := Nat.lt_succ_self _
  have hle0 : w.heap.size ≤ w.heap.size := Nat.le_refl _
  replace HS := Lib.hid (HS.out.on hbq)
  generalize ((w.alloc (.cells #[.int .u64 (P.wrd I 0), .int .u64 (P.wrd I 1), .int .u64 (P.wrd I 2), .int .u64 (P.wrd I 3)] 37)).alloc (.cells #[.int .u64 0, .int .u64 0, .int .u64 0, .int .u64 0] 37)) = w1 at bx0 bx1 hbq HS ⊢
  have BQi := Lib.hid bx0
  have BQr := Lib.hid bx1
  have W := Lib.hid hbq
  have LTir := Lib.hid lt0
  have LEi := Lib.hid hle0
  clear hbq hle0 bx0 bx1 lt0
  generalize w.heap.size + 1 = qr at BQr LTir ⊢
  obtain ⟨qi, hqi⟩ : ∃ qi, w.heap.size = qi := ⟨_, rfl⟩
  rw [hqi] at BQi LTir ⊢
  have LEi : Hid (w.heap.size ≤ qi) := Lib.hid (by omega)
  clear hqi
  have hbb := BQi.out
  have ic0 : w1.cell? ⟨qi, 0, none⟩ = some (.int .u64 (P.wrd I 0)) := hbb.cell 0 _ rfl
  have ic1 : w1.cell? ⟨qi, 1, none⟩ = some (.int .u64 (P.wrd I 1)) := hbb.cell 1 _ rfl
  have ic2 : w1.cell? ⟨qi, 2, none⟩ = some (.int .u64 (P.wrd I 2)) := hbb.cell 2 _ rfl
  have ic3 : w1.cell? ⟨qi, 3, none⟩ = some (.int .u64 (P.wrd I 3)) := hbb.cell 3 _ rfl
  clear hbb
  go_wp2_with fail
  clear ic0 ic1 ic2 ic3
  refine (list_any I _ (T.out.on (HS.out.low))).mono ?_
  rintro e w3 ⟨lv, rfl, hown, hb⟩
  obtain ⟨ln, hln⟩ : ∃ k, (P.lst I).length = k := ⟨_, rfl⟩
  have hlp : 0 < ln := by
    rcases Nat.eq_zero_or_pos ln with e | e
    · exact absurd (P.bit_none fun i hi => by
        have h1 := (P.mem_lst I i).2 hi
        rw [List.eq_nil_of_length_eq_zero (hln.trans e)] at h1
        cases h1) HNE.out
    · exact e
  rw [hln] at hown
  obtain ⟨bl, kl, rfl, -, -, hcl, -⟩ := own_form hown hlp
  have HLL := Lib.hid hln
  have HLC := Lib.hid (show ∀ j, j < ln → w3.cell? ⟨bl, j, none⟩ = some (.int .i64 (((P.lst I).getD j 0 : Nat) : Int)) from fun j hj => hcl j _ (by
    unfold P.vals
    rw [List.getElem?_map, List.getD_eq_getElem?_getD, List.getElem?_eq_getElem (by omega)]
    rfl))
  have hl256 : ln ≤ 256 := by rw [← hln]; unfold P.lst; exact Nat.le_trans (List.length_filter_le _ _) (by simp)
  replace HS := Lib.hid (HS.out.on hb)
  replace BQi := Lib.hid (BQi.out.keep (grown_of_below hb none))
  replace BQr := Lib.hid (BQr.out.keep (grown_of_below hb none))
  replace W := Lib.hid (W.out.trans (hb.mono W.out.size))
  clear hown hcl hb hln
  go_wp2_with fail
  go_loopw [6, 12] (fun zv iv wr => ∃ (k : Nat) (zt : Int), k ≤ ln ∧ iv = .int .i64 (k : Int) ∧ zv = .int .i64 zt ∧ 0 ≤ zt ∧ (∀ j, j < k → g.prio.getD ((P.lst I).getD j 0) 0 ≤ zt) ∧ (zt = 0 ∨ ∃ j, j < k ∧ g.prio.getD ((P.lst I).getD j 0) 0 = zt) ∧ wr = w3) (fun _ iv _ => ln - (intOf iv).toNat)
  case atStart => exact ⟨0, 0, Nat.zero_le _, rfl, rfl, Int.le_refl _, fun j h => absurd h (Nat.not_lt_zero j), .inl rfl, rfl⟩
  case round =>
    obtain ⟨k, zt, hk, rfl, rfl, hz0, hup, hat, hwr⟩ := hrel
    rw [hwr]
    clear hwr
    have HZ0 := Lib.hid hz0
    have HUP := Lib.hid hup
    have HAT := Lib.hid hat
    have hk0 : (0 : Int) ≤ (k : Int) := Int.natCast_nonneg _
    clear hup hat
    by_cases hlt : k < ln
    · have fk : decide ((k : Int) < (ln : Int)) = true := decide_eq_true (by omega)
      have hki : (k : Int) < (ln : Int) := by omega
      have hc := HLC.out k hlt
      obtain ⟨x, hx⟩ : ∃ x, (P.lst I).getD k 0 = x := ⟨_, rfl⟩
      rw [hx] at hc
      have hxI : P.Bit I x := (P.mem_lst I x).1 (by rw [← hx, List.getD_eq_getElem?_getD, List.getElem?_eq_getElem (by rw [HLL.out]; exact hlt)]; exact List.getElem_mem _)
      have hxn := HI.out x hxI
      have hx0 : (0 : Int) ≤ (x : Int) := Int.natCast_nonneg _
      have hxi : (x : Int) < (n : Int) := by omega
      have cp := HCB.out w3 HS.out.low x hxn
      obtain ⟨y, hy⟩ : ∃ y, g.prio.getD x 0 = y := ⟨_, rfl⟩
      rw [hy] at cp
      have HY := Lib.hid (show g.prio.getD ((P.lst I).getD k 0) 0 = y by rw [hx]; exact hy)
      clear hx hxI hy
      have hbb := HS.out.box
      have sc0 : w3.cell? ⟨qs, 0, none⟩ = some (.slice (some ⟨ba, oa, none⟩) n ka) := hbb.cell 0 _ rfl
      have sc1 : w3.cell? ⟨qs, 1, none⟩ = some (.slice (some ⟨bb, ob, none⟩) n kb) := hbb.cell 1 _ rfl
      have sc2 : w3.cell? ⟨qs, 2, none⟩ = some (.slice (some ⟨bc_, oc, none⟩) n kc) := hbb.cell 2 _ rfl
      have sc3 : w3.cell? ⟨qs, 3, none⟩ = some (.slice (some ⟨pc, 0, none⟩) n kq) := hbb.cell 3 _ rfl
      have sc4 : w3.cell? ⟨qs, 4, none⟩ = some (.int .i64 d) := hbb.cell 4 _ rfl
      clear hbb
      by_cases hzy : zt < y
      · have HU2 := Lib.hid (show ∀ j, j < k + 1 → g.prio.getD ((P.lst I).getD j 0) 0 ≤ y from fun j hj => by
          by_cases e : j = k
          · rw [e, HY.out]; exact Int.le_refl _
          · exact Int.le_trans (HUP.out j (by omega)) (by omega))
        have HA2 := Lib.hid (show y = 0 ∨ ∃ j, j < k + 1 ∧ g.prio.getD ((P.lst I).getD j 0) 0 = y from .inr ⟨k, by omega, HY.out⟩)
        have hy0 : 0 ≤ y := by omega
        go_wp2_with fail
        clear hc cp sc0 sc1 sc2 sc3 sc4
        go_roundw
        case rel => exact ⟨k + 1, y, by omega, by first | rfl | go_num, by first | rfl | rw [if_pos hzy] | simp [hzy], hy0, HU2.out, HA2.out, by first | trivial | rfl⟩
        case measure => simp [intOf]; omega
      · have HU2 := Lib.hid (show ∀ j, j < k + 1 → g.prio.getD ((P.lst I).getD j 0) 0 ≤ zt from fun j hj => by
          by_cases e : j = k
          · rw [e, HY.out]; omega
          · exact HUP.out j (by omega))
        have HA2 := Lib.hid (show zt = 0 ∨ ∃ j, j < k + 1 ∧ g.prio.getD ((P.lst I).getD j 0) 0 = zt from HAT.out.imp id fun ⟨j, h1, h2⟩ => ⟨j, by omega, h2⟩)
        go_wp2_with fail
        clear hc cp sc0 sc1 sc2 sc3 sc4
        go_roundw
        case rel => exact ⟨k + 1, zt, by omega, by first | rfl | go_num, by first | rfl | rw [if_neg hzy] | simp [hzy], hz0, HU2.out, HA2.out, by first | trivial | rfl⟩
        case measure => simp [intOf]; omega
    · have fk : decide ((k : Int) < (ln : Int)) = false := decide_eq_false (by omega)
      have hkl : k = ln := by omega
      have hup2 : ∀ i, P.Bit I i → g.prio.getD i 0 ≤ zt := fun i hi => by
        obtain ⟨j, hj, e⟩ := List.mem_iff_getElem.1 ((P.mem_lst I i).2 hi)
        have h1 := HUP.out j (by have := HLL.out; omega)
        rw [List.getD_eq_getElem?_getD (l := P.lst I), List.getElem?_eq_getElem hj] at h1
        rw [← e]
        exact h1
      have hbt : ∀ i, P.Bit (P.places zt g.prio g.prio.length &&& I) i ↔ P.Bit I i ∧ g.prio.getD i 0 = zt := fun i => by
        unfold P.Bit
        rw [BitVec.getLsbD_and, Bool.and_eq_true]
        constructor
        · rintro ⟨h1, h2⟩
          have hin := HI.out i h2
          rw [P.getLsbD_places zt g.prio i (by omega), Bool.and_eq_true, decide_eq_true_eq, decide_eq_true_eq] at h1
          exact ⟨h2, h1.2⟩
        · rintro ⟨h1, h2⟩
          have hin := HI.out i h1
          rw [P.getLsbD_places zt g.prio i (by omega), Bool.and_eq_true, decide_eq_true_eq, decide_eq_true_eq]
          exact ⟨⟨by rw [HPN.out]; exact hin, h2⟩, h1⟩
      have hex : ∃ i, P.Bit (P.places zt g.prio g.prio.length &&& I) i := by
        have mem : ∀ j, j < ln → P.Bit I ((P.lst I).getD j 0) := fun j hj => (P.mem_lst I _).1 (by rw [List.getD_eq_getElem?_getD, List.getElem?_eq_getElem (by rw [HLL.out]; exact hj)]; exact List.getElem_mem _)
        rcases HAT.out with h1 | ⟨j, h1, h2⟩
        · have hb0 := mem 0 hlp
          have h2 := hup2 _ hb0
          have h3 := (HR.out.at _ (by rw [HN.out]; exact HI.out _ hb0)).2.1
          exact ⟨_, (hbt _).2 ⟨hb0, by omega⟩⟩
        · exact ⟨_, (hbt _).2 ⟨mem j (by omega), h2⟩⟩
      have HZT := Lib.hid (And.intro hbt (And.intro hup2 hex))
      obtain ⟨pl, hpl⟩ : ∃ p, zt % 2 = p := ⟨_, rfl⟩
      have fr : zt.tmod 2 = pl := by rw [Int.tmod_eq_emod_of_nonneg hz0, hpl]
      have HPL := Lib.hid hpl
      have HLR : Hid (w0.heap.size ≤ qr) := Lib.hid (by have h1 := HLW.out; have h2 := LTir.out; have h3 := LEi.out; omega)
      have NQsr : Hid (qs ≠ qr) := Lib.hid (by have h1 := HQW.out; have h2 := LTir.out; have h3 := LEi.out; omega)
      have NQir : Hid (qi ≠ qr) := Lib.hid (by have h2 := LTir.out; omega)
      clear hbt hup2 hex hpl hkl
      go_upto_region 7 with (fail)
      refine Rt.wp_region_tail 1 (fun idx => match idx with | 0 => (fun v _ _ => v = (.pointer (some ⟨qs, 0, none⟩))) | 1 => (fun v _ _ => v = (.pointer (some ⟨qs, 0, none⟩))) | 2 => (fun v _ _ => v = (.pointer (some ⟨qs, 0, none⟩))) | 3 => (fun v _ _ => v = .agg #[.slice (some ⟨ba, oa, none⟩) n ka, .slice (some ⟨bb, ob, none⟩) n kb, .slice (some ⟨bc_, oc, none⟩) n kc]) | 4 => (fun v _ _ => v = (.int .i64 zt)) | 5 => (fun v _ _ => v = .agg #[.int .u64 (P.wrd (P.places zt g.prio g.prio.length) 0), .int .u64 (P.wrd (P.places zt g.prio g.prio.length) 1), .int .u64 (P.wrd (P.places zt g.prio g.prio.length) 2), .int .u64 (P.wrd (P.places zt g.prio g.prio.length) 3)]) | 6 => (fun v _ _ => v = .agg #[.int .u64 (P.wrd I 0), .int .u64 (P.wrd I 1), .int .u64 (P.wrd I 2), .int .u64 (P.wrd I 3)]) | 7 => (fun v _ _ => v = .agg #[.int .u64 (P.wrd (P.places zt g.prio g.prio.length &&& I) 0), .int .u64 (P.wrd (P.places zt g.prio g.prio.length &&& I) 1), .int .u64 (P.wrd (P.places zt g.prio g.prio.length &&& I) 2), .int .u64 (P.wrd (P.places zt g.prio g.prio.length &&& I) 3)]) | 8 => (fun v _ _ => v = (.int .i64 zt)) | 9 => (fun v _ _ => v = (.int .i64 pl)) | 10 => (fun _ _ w' => Box w' qr 37 #[.int .u64 (P.wrd (P.places zt g.prio g.prio.length &&& I) 0), .int .u64 (P.wrd (P.places zt g.prio g.prio.length &&& I) 1), .int .u64 (P.wrd (P.places zt g.prio g.prio.length &&& I) 2), .int .u64 (P.wrd (P.places zt g.prio g.prio.length &&& I) 3)]) | _ => fun _ _ _ => True) (fun _ _ _ _ => True) (KX w3.heap.size [qr]) 10 (by kernel_rfl) (by rfl) (by kernel_rfl) (by rfl) ?_ ?_ ?_ ?_
      · refine ⟨?_, ?_, ?_, ?_, ?_, ?_, ?_, ?_, ?_, ?_, ?_, trivial⟩
        · intro A w' K vals h hn hT hgk hK0
          have r0 : A.tmps[0]?.getD undef = .pointer (some ⟨qs, 0, none⟩) := Rg.slot h.1
          clear h hn hT hgk
          simp [Oper.wp, execOp, go_sem, r0]
          exact hK0 _ _ (Rk.Keeps.refl _ _) rfl trivial
        · intro A w' K vals h hn hT hgk hK0
          have r0 : A.tmps[27]?.getD undef = vals 0 := Rg.slot h.1
          have s0 : vals 0 = .pointer (some ⟨qs, 0, none⟩) := hn.1
          clear h hn hT hgk
          simp [Oper.wp, execOp, go_sem, r0, s0]
          exact hK0 _ _ (Rk.Keeps.refl _ _) rfl trivial
        · intro A w' K vals h hn hT hgk hK0
          have r0 : A.tmps[28]?.getD undef = vals 1 := Rg.slot h.1
          have s0 : vals 1 = .pointer (some ⟨qs, 0, none⟩) := hn.1
          clear h hn hT hgk
          simp [Oper.wp, execOp, go_sem, r0, s0]
          exact hK0 _ _ (Rk.Keeps.refl _ _) rfl trivial
        · intro A w' K vals h hn hT hgk hK0
          have r0 : A.tmps[29]?.getD undef = vals 2 := Rg.slot h.1
          have r1 : vals 2 = (.pointer (some ⟨qs, 0, none⟩)) := hn.1
          have bs := kx_box hgk HS.out.box HS.out.box.lt (by have h1 := NQsr.out; simp [h1])
          have cc0 : w'.cell? ⟨qs, 0, none⟩ = some (.slice (some ⟨ba, oa, none⟩) n ka) := bs.cell 0 _ rfl
          have cc1 : w'.cell? ⟨qs, 1, none⟩ = some (.slice (some ⟨bb, ob, none⟩) n kb) := bs.cell 1 _ rfl
          have cc2 : w'.cell? ⟨qs, 2, none⟩ = some (.slice (some ⟨bc_, oc, none⟩) n kc) := bs.cell 2 _ rfl
          clear h hn hT hgk bs
          simp [Oper.wp, execOp, go_sem, r0, r1, cc0, cc1, cc2]
          exact hK0 _ _ (Rk.Keeps.refl _ _) rfl trivial
        · intro A w' K vals h hn hT hgk hK0
          have r0 : A.tmps[6]?.getD undef = .int .i64 zt := Rg.slot h.1
          clear h hn hT hgk
          simp [Oper.wp, execOp, go_sem, r0]
          exact hK0 _ _ (Rk.Keeps.refl _ _) rfl trivial
        · intro A w' K vals h hn hT hgk hK0
          have r0 : A.tmps[30]?.getD undef = vals 3 := Rg.slot h.2.1
          have r1 : A.tmps[31]?.getD undef = vals 4 := Rg.slot h.2.2.1
          have s0 : vals 3 = .agg #[.slice (some ⟨ba, oa, none⟩) n ka, .slice (some ⟨bb, ob, none⟩) n kb, .slice (some ⟨bc_, oc, none⟩) n kc] := hn.1
          have s1 : vals 4 = .int .i64 zt := hn.2.1
          have hb := HS.out.low.trans (kx_below hgk (fun x hx => by have h1 := List.mem_singleton.1 hx; have h2 := HLR.out; omega) HS.out.low.size (Nat.le_refl _))
          clear h hn hT hgk
          simp [Oper.wp, go_sem, r0, r1, s0, s1]
          refine (at_any g _ zt w' (HV.out.on hb)).mono ?_
          rintro e w'' ⟨rfl, hb⟩
          exact hK0 _ _ (Rk.keep_of (grown_of_below hb _)) rfl trivial
        · intro A w' K vals h hn hT hgk hK0
          have r0 : A.tmps[3]?.getD undef = (.pointer (some ⟨qi, 0, none⟩)) := Rg.slot h.1
          have bs := kx_box hgk BQi.out BQi.out.lt (by have h1 := NQir.out; simp [h1])
          have cc0 : w'.cell? ⟨qi, 0, none⟩ = some (.int .u64 (P.wrd I 0)) := bs.cell 0 _ rfl
          have cc1 : w'.cell? ⟨qi, 1, none⟩ = some (.int .u64 (P.wrd I 1)) := bs.cell 1 _ rfl
          have cc2 : w'.cell? ⟨qi, 2, none⟩ = some (.int .u64 (P.wrd I 2)) := bs.cell 2 _ rfl
          have cc3 : w'.cell? ⟨qi, 3, none⟩ = some (.int .u64 (P.wrd I 3)) := bs.cell 3 _ rfl
          clear h hn hT hgk bs
          simp [Oper.wp, execOp, go_sem, r0, cc0, cc1, cc2, cc3]
          exact hK0 _ _ (Rk.Keeps.refl _ _) rfl trivial
        · intro A w' K vals h hn hT hgk hK0
          have r0 : A.tmps[32]?.getD undef = vals 5 := Rg.slot h.2.1
          have r1 : A.tmps[33]?.getD undef = vals 6 := Rg.slot h.2.2.1
          have s0 : vals 5 = .agg #[.int .u64 (P.wrd (P.places zt g.prio g.prio.length) 0), .int .u64 (P.wrd (P.places zt g.prio g.prio.length) 1), .int .u64 (P.wrd (P.places zt g.prio g.prio.length) 2), .int .u64 (P.wrd (P.places zt g.prio g.prio.length) 3)] := hn.1
          have s1 : vals 6 = .agg #[.int .u64 (P.wrd I 0), .int .u64 (P.wrd I 1), .int .u64 (P.wrd I 2), .int .u64 (P.wrd I 3)] := hn.2.1
          clear h hn hT hgk
          simp [Oper.wp, go_sem, r0, r1, s0, s1]
          refine (and_any _ _ w').mono ?_
          rintro e w'' ⟨rfl, hb⟩
          exact hK0 _ _ (Rk.keep_of (grown_of_below hb _)) rfl trivial
        · intro A w' K vals h hn hT hgk hK0
          have r0 : A.tmps[6]?.getD undef = .int .i64 zt := Rg.slot h.1
          clear h hn hT hgk
          simp [Oper.wp, execOp, go_sem, r0]
          exact hK0 _ _ (Rk.Keeps.refl _ _) rfl trivial
        · intro A w' K vals h hn hT hgk hK0
          have r0 : A.tmps[35]?.getD undef = vals 8 := Rg.slot h.1
          have s0 : vals 8 = .int .i64 zt := hn.1
          clear h hn hT hgk
          simp [Oper.wp, execOp, go_sem, r0, s0, fr]
          exact hK0 _ _ (Rk.Keeps.refl _ _) rfl trivial
        · intro A w' K vals h hn hT hgk hK0
          have r0 : A.tmps[4]?.getD undef = (.pointer (some ⟨qr, 0, none⟩)) := Rg.slot h.1
          have r1 : A.tmps[34]?.getD undef = vals 7 := Rg.slot h.2.1
          have s0 : vals 7 = .agg #[.int .u64 (P.wrd (P.places zt g.prio g.prio.length &&& I) 0), .int .u64 (P.wrd (P.places zt g.prio g.prio.length &&& I) 1), .int .u64 (P.wrd (P.places zt g.prio g.prio.length &&& I) 2), .int .u64 (P.wrd (P.places zt g.prio g.prio.length &&& I) 3)] := hn.1
          have bs := BQr.out.keep (Rk.grown_of hgk)
          have rc0 : w'.cell? ⟨qr, 0, none⟩ = some (.int .u64 0) := bs.cell 0 _ rfl
          have rc1 : w'.cell? ⟨qr, 1, none⟩ = some (.int .u64 0) := bs.cell 1 _ rfl
          have rc2 : w'.cell? ⟨qr, 2, none⟩ = some (.int .u64 0) := bs.cell 2 _ rfl
          have rc3 : w'.cell? ⟨qr, 3, none⟩ = some (.int .u64 0) := bs.cell 3 _ rfl
          have rf0 : w'.frozen? ⟨qr, 0, none⟩ = false := bs.frozen 0
          have rf1 : w'.frozen? ⟨qr, 1, none⟩ = false := bs.frozen 1
          have rf2 : w'.frozen? ⟨qr, 2, none⟩ = false := bs.frozen 2
          have rf3 : w'.frozen? ⟨qr, 3, none⟩ = false := bs.frozen 3
          clear h hn hT hgk
          have hK1 := hK0 undef ((((w'.setCell ⟨qr, 0, none⟩ (.int .u64 (P.wrd (P.places zt g.prio g.prio.length &&& I) 0))).setCell ⟨qr, 1, none⟩ (.int .u64 (P.wrd (P.places zt g.prio g.prio.length &&& I) 1))).setCell ⟨qr, 2, none⟩ (.int .u64 (P.wrd (P.places zt g.prio g.prio.length &&& I) 2))).setCell ⟨qr, 3, none⟩ (.int .u64 (P.wrd (P.places zt g.prio g.prio.length &&& I) 3))) (kx4 _ _ _ _ (.inl (by simp))) ((((bs.set 0 (.int .u64 (P.wrd (P.places zt g.prio g.prio.length &&& I) 0))).set 1 (.int .u64 (P.wrd (P.places zt g.prio g.prio.length &&& I) 1))).set 2 (.int .u64 (P.wrd (P.places zt g.prio g.prio.length &&& I) 2))).set 3 (.int .u64 (P.wrd (P.places zt g.prio g.prio.length &&& I) 3))) trivial
          clear hK0 bs
          simp [Oper.wp, execOp, go_sem, r0, r1, s0, rc0, rc1, rc2, rc3, rf0, rf1, rf2, rf3]
          exact hK1
      · refine ⟨?_, ?_, ?_, ?_, ?_, ?_, ?_, ?_, ?_, ?_, ?_, trivial⟩
        · exact fun _ _ _ _ _ _ h => h
        · exact fun _ _ _ _ _ _ h => h
        · exact fun _ _ _ _ _ _ h => h
        · exact fun _ _ _ _ _ _ h => h
        · exact fun _ _ _ _ _ _ h => h
        · exact fun _ _ _ _ _ _ h => h
        · exact fun _ _ _ _ _ _ h => h
        · exact fun _ _ _ _ _ _ h => h
        · exact fun _ _ _ _ _ _ h => h
        · exact fun _ _ _ _ _ _ h => h
        · exact fun _ _ _ _ _ h hb => hb.keep (Rk.grown_of h)
      · exact fun _ _ _ _ _ _ h => h
      · intro vals w8 G hgk hS hG
        have s9 : vals 9 = (.int .i64 pl) := hS.2.2.2.2.2.2.2.2.2.1
        have BZ : Box w8 qr 37 #[.int .u64 (P.wrd (P.places zt g.prio g.prio.length &&& I) 0), .int .u64 (P.wrd (P.places zt g.prio g.prio.length &&& I) 1), .int .u64 (P.wrd (P.places zt g.prio g.prio.length &&& I) 2), .int .u64 (P.wrd (P.places zt g.prio g.prio.length &&& I) 3)] := hS.2.2.2.2.2.2.2.2.2.2.1
        clear hS
        have WZ := Lib.hid (W.out.trans (kx_below hgk (fun x hx => by have h1 := List.mem_singleton.1 hx; have h2 := LTir.out; have h3 := LEi.out; omega) W.out.size (Nat.le_refl _)))
        clear hgk
        refine hG ?_
        clear hG
        simp only [List.take, List.drop, List.length, Nat.reduceSub, Nat.reduceAdd, Rg.putAll, Act.put, List.setIfInBounds_toArray, List.set_cons_succ, List.set_cons_zero, s9]
        clear s9
        have zc0 : w8.cell? ⟨qr, 0, none⟩ = some (.int .u64 (P.wrd (P.places zt g.prio g.prio.length &&& I) 0)) := BZ.cell 0 _ rfl
        have zc1 : w8.cell? ⟨qr, 1, none⟩ = some (.int .u64 (P.wrd (P.places zt g.prio g.prio.length &&& I) 1)) := BZ.cell 1 _ rfl
        have zc2 : w8.cell? ⟨qr, 2, none⟩ = some (.int .u64 (P.wrd (P.places zt g.prio g.prio.length &&& I) 2)) := BZ.cell 2 _ rfl
        have zc3 : w8.cell? ⟨qr, 3, none⟩ = some (.int .u64 (P.wrd (P.places zt g.prio g.prio.length &&& I) 3)) := BZ.cell 3 _ rfl
        have HCE := Lib.hid (And.intro zc0 (And.intro zc1 (And.intro zc2 zc3)))
        clear BZ zc0 zc1 zc2 zc3
        go_wp2_with fail
        obtain ⟨zc0, zc1, zc2, zc3⟩ := HCE.out
        refine bodyPost_ret (v := .tuple #[.agg #[.int .u64 (P.wrd (P.places zt g.prio g.prio.length &&& I) 0), .int .u64 (P.wrd (P.places zt g.prio g.prio.length &&& I) 1), .int .u64 (P.wrd (P.places zt g.prio g.prio.length &&& I) 2), .int .u64 (P.wrd (P.places zt g.prio g.prio.length &&& I) 3)], .int .i64 pl]) (by simp [results, Tryd.results22, go_sem, zc0, zc1, zc2, zc3]) rfl ⟨zt, (P.places zt g.prio g.prio.length &&& I), by rw [HPL.out], HZT.out.1, HZT.out.2.1, HZT.out.2.2, HZ0.out, WZ.out⟩

end W
end Go.Proofs.YtghdjkpndhcplaaDoor
end
section
namespace Go.Proofs.YtghdjkpndhcplaaDoor
open Go.RowKit
namespace W

end W
namespace P
/-- The first k forced moves written over. -/
def frcK (c m : List Int) (k : Nat) : List Int := (List.range c.length).map fun j => if j < k ∧ m.getD j (-1) ≠ -1 then m.getD j (-1) else c.getD j (-1)
theorem frcK_at {c m : List Int} {k j : Nat} (hj : j < c.length) : (frcK c m k)[j]? = some (if j < k ∧ m.getD j (-1) ≠ -1 then m.getD j (-1) else c.getD j (-1)) := by
  unfold frcK
  rw [List.getElem?_map, List.getElem?_range hj]
  rfl
theorem frcK_len (c m : List Int) (k : Nat) : (frcK c m k).length = c.length := by unfold frcK; simp
theorem frcK_ext {c m l : List Int} {k : Nat} (hl : l.length = c.length) (h : ∀ j, j < c.length → l[j]? = some (if j < k ∧ m.getD j (-1) ≠ -1 then m.getD j (-1) else c.getD j (-1))) : frcK c m k = l := by
  apply List.ext_getElem?
  intro j
  by_cases hj : j < c.length
  · rw [frcK_at hj, h j hj]
  · rw [List.getElem?_eq_none (by rw [frcK_len]; omega), List.getElem?_eq_none (by omega)]
theorem frcK_zero (c m : List Int) : frcK c m 0 = c := frcK_ext rfl fun j hj => by
  rw [if_neg (by omega), List.getD_eq_getElem?_getD, List.getElem?_eq_getElem hj]
  rfl
theorem frcK_skip {c m : List Int} {k : Nat} (h : m.getD k (-1) = -1) : frcK c m (k + 1) = frcK c m k := by
  refine (frcK_ext (frcK_len _ _ _) fun j hj => ?_).symm
  rw [frcK_at hj]
  congr 1
  by_cases e : j = k
  · rw [if_neg (by rw [e, h]; simp), if_neg (by omega)]
  · by_cases h1 : j < k ∧ m.getD j (-1) ≠ -1
    · rw [if_pos h1, if_pos ⟨by omega, h1.2⟩]
    · rw [if_neg h1, if_neg (fun h2 => h1 ⟨by omega, h2.2⟩)]
theorem frcK_set {c m : List Int} {k : Nat} (h : m.getD k (-1) ≠ -1) (hk : k < c.length) : frcK c m (k + 1) = (frcK c m k).set k (m.getD k (-1)) := by
  refine frcK_ext (by rw [List.length_set, frcK_len]) fun j hj => ?_
  by_cases e : j = k
  · rw [e, List.getElem?_set_self (by rw [frcK_len]; exact hk), if_pos ⟨by omega, h⟩]
  · rw [List.getElem?_set_ne (Ne.symm e), frcK_at hj]
    congr 1
    by_cases h1 : j < k ∧ m.getD j (-1) ≠ -1
    · rw [if_pos h1, if_pos ⟨by omega, h1.2⟩]
    · rw [if_neg h1, if_neg (fun h2 => h1 ⟨by omega, h2.2⟩)]
theorem frcK_all {c m : List Int} : frcK c m c.length = frc c m := by
  refine frcK_ext (frc_len c m) fun j hj => ?_
  unfold frc
  rw [List.getElem?_map, List.getElem?_range hj]
  show some _ = some _
  congr 1
  show (if m.getD j (-1) = -1 then c.getD j (-1) else m.getD j (-1)) = _
  by_cases h : m.getD j (-1) = -1
  · rw [if_pos h, if_neg (fun h2 => h2.2 h)]
  · rw [if_neg h, if_pos ⟨hj, h⟩]
end P
namespace W
set_option maxRecDepth 100000 in
set_option maxHeartbeats 8000000 in
theorem force_any (g : P.G) (hr : g.Right) (n : Nat) (hn : g.owner.length = n) (w0 : World) (ba oa ka bb ob kb bc_ oc kc : Nat) (hv : GameV w0 (.agg #[.slice (some ⟨ba, oa, none⟩) n ka, .slice (some ⟨bb, ob, none⟩) n kb, .slice (some ⟨bc_, oc, none⟩) n kc]) g) (hT : Tab w0) (qs pc kq : Nat) (c : List Int) (d : Int) (w : World) (hS : Sl w0 w qs pc n kq (.slice (some ⟨ba, oa, none⟩) n ka) (.slice (some ⟨bb, ob, none⟩) n kb) (.slice (some ⟨bc_, oc, none⟩) n kc) c d) (p : Int) (hp : p = 0 ∨ p = 1) (I To : BitVec 256) :
    Calls Tryd.prog 23 #[.pointer (some ⟨qs, 0, none⟩), .agg #[.int .u64 (P.wrd I 0), .int .u64 (P.wrd I 1), .int .u64 (P.wrd I 2), .int .u64 (P.wrd I 3)], .int .i64 p, .agg #[.int .u64 (P.wrd To 0), .int .u64 (P.wrd To 1), .int .u64 (P.wrd To 2), .int .u64 (P.wrd To 3)]] w fun e w' => e = .returned (.agg #[.int .u64 (P.wrd (P.attOf g I p To) 0), .int .u64 (P.wrd (P.attOf g I p To) 1), .int .u64 (P.wrd (P.attOf g I p To) 2), .int .u64 (P.wrd (P.attOf g I p To) 3)]) ∧ ∃ m, P.Played g (I &&& P.full (g.owner.length : Int)) p To m ∧ Sl w0 w' qs pc n kq (.slice (some ⟨ba, oa, none⟩) n ka) (.slice (some ⟨bb, ob, none⟩) n kb) (.slice (some ⟨bc_, oc, none⟩) n kc) (P.frc c m) d ∧ SlK qs pc w w' := by
  have HOK := Lib.hid ((P.G.ok_iff g).2 hr)
  have HV := Lib.hid hv
  have T := Lib.hid hT
  have HR := Lib.hid hr
  have HN := Lib.hid hn
  have hop := hr.prio
  have hmp := hr.moves
  have hmany := hr.many
  have h0 := hr.pos
  rw [hn] at hop hmp hmany h0
  have HPN := Lib.hid hop
  obtain ⟨xba, xoa, xka, xbb, xob, xkb, xbc, xoc, xkc, e0, hca, hcb, hcc⟩ := hv.open_ hn hop hmp h0
  injection e0 with e0
  obtain ⟨⟨⟨rfl, rfl⟩, rfl⟩, ⟨⟨rfl, rfl⟩, rfl⟩, ⟨rfl, rfl⟩, rfl⟩ : (((ba = xba ∧ oa = xoa) ∧ ka = xka) ∧ ((bb = xbb ∧ ob = xob) ∧ kb = xkb) ∧ (bc_ = xbc ∧ oc = xoc) ∧ kc = xkc) := by simpa using e0
  have HCA := Lib.hid hca
  have HCB := Lib.hid hcb
  have HCC := Lib.hid hcc
  clear e0 hca hcb hcc hv hT hr hn hop hmp
  have HS := Lib.hid hS
  have HP := Lib.hid hp
  have HCL := Lib.hid hS.len
  have HQ2 : Hid (qs < w.heap.size ∧ pc < w.heap.size) := Lib.hid ⟨hS.box.lt, hS.plo.2⟩
  have HSZ : Hid (w0.heap.size ≤ w.heap.size) := Lib.hid hS.low.size
  clear hS hp
  go_enter Tryd.func23, Tryd.ntmps23
  go_upto_region 1 with (fail)
  have bx0 : Box (((w.alloc (.cells #[.int .u64 (P.wrd I 0), .int .u64 (P.wrd I 1), .int .u64 (P.wrd I 2), .int .u64 (P.wrd I 3)] 37)).alloc (.cells #[.int .u64 (P.wrd To 0), .int .u64 (P.wrd To 1), .int .u64 (P.wrd To 2), .int .u64 (P.wrd To 3)] 37)).alloc (.cells #[.int .u64 0, .int .u64 0, .int .u64 0, .int .u64 0] 37)) (w.heap.size) 37 #[.int .u64 (P.wrd I 0), .int .u64 (P.wrd I 1), .int .u64 (P.wrd I 2), .int .u64 (P.wrd I 3)] := Box.alloc (Box.alloc (Box.new w 37 #[.int .u64 (P.wrd I 0), .int .u64 (P.wrd I 1), .int .u64 (P.wrd I 2), .int .u64 (P.wrd I 3)]) (.cells #[.int .u64 (P.wrd To 0), .int .u64 (P.wrd To 1), .int .u64 (P.wrd To 2), .int .u64 (P.wrd To 3)] 37)) (.cells #[.int .u64 0, .int .u64 0, .int .u64 0, .int .u64 0] 37)
  have bx1 : Box (((w.alloc (.cells #[.int .u64 (P.wrd I 0), .int .u64 (P.wrd I 1), .int .u64 (P.wrd I 2), .int .u64 (P.wrd I 3)] 37)).alloc (.cells #[.int .u64 (P.wrd To 0), .int .u64 (P.wrd To 1), .int .u64 (P.wrd To 2), .int .u64 (P.wrd To 3)] 37)).alloc (.cells #[.int .u64 0, .int .u64 0, .int .u64 0, .int .u64 0] 37)) (w.heap.size + 1) 37 #[.int .u64 (P.wrd To 0), .int .u64 (P.wrd To 1), .int .u64 (P.wrd To 2), .int .u64 (P.wrd To 3)] := by
    have := Box.alloc (Box.new (w.alloc (.cells #[.int .u64 (P.wrd I 0), .int .u64 (P.wrd I 1), .int .u64 (P.wrd I 2), .int .u64 (P.wrd I 3)] 37)) 37 #[.int .u64 (P.wrd To 0), .int .u64 (P.wrd To 1), .int .u64 (P.wrd To 2), .int .u64 (P.wrd To 3)]) (.cells #[.int .u64 0, .int .u64 0, .int .u64 0, .int .u64 0] 37)
    simpa using this
  have bx2 : Box (((w.alloc (.cells #[.int .u64 (P.wrd I 0), .int .u64 (P.wrd I 1), .int .u64 (P.wrd I 2), .int .u64 (P.wrd I 3)] 37)).alloc (.cells #[.int .u64 (P.wrd To 0), .int .u64 (P.wrd To 1), .int .u64 (P.wrd To 2), .int .u64 (P.wrd To 3)] 37)).alloc (.cells #[.int .u64 0, .int .u64 0, .int .u64 0, .int .u64 0] 37)) (w.heap.size + 1 + 1) 37 #[.int .u64 0, .int .u64 0, .int .u64 0, .int .u64 0] := by
    have := Box.new ((w.alloc (.cells #[.int .u64 (P.wrd I 0), .int .u64 (P.wrd I 1), .int .u64 (P.wrd I 2), .int .u64 (P.wrd I 3)] 37)).alloc (.cells #[.int .u64 (P.wrd To 0), .int .u64 (P.wrd To 1), .int .u64 (P.wrd To 2), .int .u64 (P.wrd To 3)] 37)) 37 #[.int .u64 0, .int .u64 0, .int .u64 0, .int .u64 0]
    simpa using this
  have hbq : Below w.heap.size w (((w.alloc (.cells #[.int .u64 (P.wrd I 0), .int .u64 (P.wrd I 1), .int .u64 (P.wrd I 2), .int .u64 (P.wrd I 3)] 37)).alloc (.cells #[.int .u64 (P.wrd To 0), .int .u64 (P.wrd To 1), .int .u64 (P.wrd To 2), .int .u64 (P.wrd To 3)] 37)).alloc (.cells #[.int .u64 0, .int .u64 0, .int .u64 0, .int .u64 0] 37)) := (((Below.refl _ w).alloc (Nat.le_refl _) _).alloc (by simp) _).alloc (by simp; omega) _
  have lt0 : w.heap.size < w.heap.size + 1 := Nat.lt_succ_self _
  have lt1 : w.heap.size + 1 < w.heap.size + 1 + 1 := Nat.lt_succ_self _
  have hle0 : w.heap.size ≤ w.heap.size := Nat.le_refl _
  replace HS := Lib.hid (HS.out.on hbq)
  generalize (((w.alloc (.cells #[.int .u64 (P.wrd I 0), .int .u64 (P.wrd I 1), .int .u64 (P.wrd I 2), .int .u64 (P.wrd I 3)] 37)).alloc (.cells #[.int .u64 (P.wrd To 0), .int .u64 (P.wrd To 1), .int .u64 (P.wrd To 2), .int .u64 (P.wrd To 3)] 37)).alloc (.cells #[.int .u64 0, .int .u64 0, .int .u64 0, .int .u64 0] 37)) = w2 at bx0 bx1 bx2 hbq HS ⊢
  have BQi := Lib.hid bx0
  have BQt := Lib.hid bx1
  have BQr := Lib.hid bx2
  have W := Lib.hid hbq
  have LTit := Lib.hid lt0
  have LTtr := Lib.hid lt1
  have LEi := Lib.hid hle0
  clear hbq hle0 bx0 bx1 bx2 lt0 lt1
  generalize w.heap.size + 1 + 1 = qr at BQr LTtr ⊢
  generalize w.heap.size + 1 = qt at BQt LTtr LTit ⊢
  obtain ⟨qi, hqi⟩ : ∃ qi, w.heap.size = qi := ⟨_, rfl⟩
  rw [hqi] at BQi LTit ⊢
  have LEi : Hid (w.heap.size ≤ qi) := Lib.hid (by omega)
  clear hqi
  have HW2 : Hid (w.heap.size ≤ w2.heap.size) := Lib.hid W.out.size
  refine Rt.wp_region_tail 1 (fun idx => match idx with | 0 => (fun v _ _ => v = (.pointer (some ⟨qs, 0, none⟩))) | 1 => (fun v _ _ => v = (.pointer (some ⟨qs, 0, none⟩))) | 2 => (fun v _ _ => v = (.pointer (some ⟨qs, 0, none⟩))) | 3 => (fun v _ _ => v = .agg #[.slice (some ⟨ba, oa, none⟩) n ka, .slice (some ⟨bb, ob, none⟩) n kb, .slice (some ⟨bc_, oc, none⟩) n kc]) | 4 => (fun v _ _ => v = .agg #[.int .u64 (P.wrd I 0), .int .u64 (P.wrd I 1), .int .u64 (P.wrd I 2), .int .u64 (P.wrd I 3)]) | 5 => (fun v _ _ => v = (.int .i64 p)) | 6 => (fun v _ _ => v = .agg #[.int .u64 (P.wrd To 0), .int .u64 (P.wrd To 1), .int .u64 (P.wrd To 2), .int .u64 (P.wrd To 3)]) | 7 => (fun v _ w' => (∃ x k m, v = .tuple #[.agg #[.int .u64 (P.wrd (P.attOf g I p To) 0), .int .u64 (P.wrd (P.attOf g I p To) 1), .int .u64 (P.wrd (P.attOf g I p To) 2), .int .u64 (P.wrd (P.attOf g I p To) 3)], .slice x m.length k] ∧ OwnI w' w2.heap.size (.slice x m.length k) m ∧ P.Played g (I &&& P.full (g.owner.length : Int)) p To m)) | 8 => (fun v ds w' => v = ds.getD 0 undef ∧ (∃ x k m, v = .tuple #[.agg #[.int .u64 (P.wrd (P.attOf g I p To) 0), .int .u64 (P.wrd (P.attOf g I p To) 1), .int .u64 (P.wrd (P.attOf g I p To) 2), .int .u64 (P.wrd (P.attOf g I p To) 3)], .slice x m.length k] ∧ OwnI w' w2.heap.size (.slice x m.length k) m ∧ P.Played g (I &&& P.full (g.owner.length : Int)) p To m)) | 9 => (fun v _ _ => v = .agg #[.int .u64 (P.wrd (P.attOf g I p To) 0), .int .u64 (P.wrd (P.attOf g I p To) 1), .int .u64 (P.wrd (P.attOf g I p To) 2), .int .u64 (P.wrd (P.attOf g I p To) 3)]) | 10 => (fun v _ w' => (∃ x k m, v = .slice x m.length k ∧ OwnI w' w2.heap.size (.slice x m.length k) m ∧ P.Played g (I &&& P.full (g.owner.length : Int)) p To m)) | 11 => (fun v _ _ => (∃ q, v = .pointer (some ⟨q, 0, none⟩) ∧ w2.heap.size ≤ q)) | 12 => (fun _ ds w' => ∃ q, ds.getD 0 undef = .pointer (some ⟨q, 0, none⟩) ∧ w2.heap.size ≤ q ∧ Box w' q 37 #[.int .u64 (P.wrd (P.attOf g I p To) 0), .int .u64 (P.wrd (P.attOf g I p To) 1), .int .u64 (P.wrd (P.attOf g I p To) 2), .int .u64 (P.wrd (P.attOf g I p To) 3)]) | _ => fun _ _ _ => True) (fun idx => match idx with | 11 => (fun v _ w' => (∃ q, v = .pointer (some ⟨q, 0, none⟩) ∧ w2.heap.size ≤ q ∧ Box w' q 37 #[.int .u64 0, .int .u64 0, .int .u64 0, .int .u64 0])) | _ => fun _ _ _ => True) (KI w2.heap.size) 12 (by kernel_rfl) (by rfl) (by kernel_rfl) (by rfl) ?_ ?_ ?_ ?_
  · refine ⟨?_, ?_, ?_, ?_, ?_, ?_, ?_, ?_, ?_, ?_, ?_, ?_, ?_, trivial⟩
    · intro A w' K vals h hn hT hgk hK0
      have r0 : A.tmps[0]?.getD undef = .pointer (some ⟨qs, 0, none⟩) := Rg.slot h.1
      clear h hn hT hgk
      simp [Oper.wp, execOp, go_sem, r0]
      exact hK0 _ _ (Rk.Keeps.refl _ _) rfl trivial
    · intro A w' K vals h hn hT hgk hK0
      have r0 : A.tmps[14]?.getD undef = vals 0 := Rg.slot h.1
      have s0 : vals 0 = .pointer (some ⟨qs, 0, none⟩) := hn.1
      clear h hn hT hgk
      simp [Oper.wp, execOp, go_sem, r0, s0]
      exact hK0 _ _ (Rk.Keeps.refl _ _) rfl trivial
    · intro A w' K vals h hn hT hgk hK0
      have r0 : A.tmps[15]?.getD undef = vals 1 := Rg.slot h.1
      have s0 : vals 1 = .pointer (some ⟨qs, 0, none⟩) := hn.1
      clear h hn hT hgk
      simp [Oper.wp, execOp, go_sem, r0, s0]
      exact hK0 _ _ (Rk.Keeps.refl _ _) rfl trivial
    · intro A w' K vals h hn hT hgk hK0
      have r0 : A.tmps[16]?.getD undef = vals 2 := Rg.slot h.1
      have r1 : vals 2 = (.pointer (some ⟨qs, 0, none⟩)) := hn.1
      have bs := ki_box hgk HS.out.box HS.out.box.lt
      have cc0 : w'.cell? ⟨qs, 0, none⟩ = some (.slice (some ⟨ba, oa, none⟩) n ka) := bs.cell 0 _ rfl
      have cc1 : w'.cell? ⟨qs, 1, none⟩ = some (.slice (some ⟨bb, ob, none⟩) n kb) := bs.cell 1 _ rfl
      have cc2 : w'.cell? ⟨qs, 2, none⟩ = some (.slice (some ⟨bc_, oc, none⟩) n kc) := bs.cell 2 _ rfl
      clear h hn hT hgk bs
      simp [Oper.wp, execOp, go_sem, r0, r1, cc0, cc1, cc2]
      exact hK0 _ _ (Rk.Keeps.refl _ _) rfl trivial
    · intro A w' K vals h hn hT hgk hK0
      have r0 : A.tmps[5]?.getD undef = (.pointer (some ⟨qi, 0, none⟩)) := Rg.slot h.1
      have bs := ki_box hgk BQi.out BQi.out.lt
      have cc0 : w'.cell? ⟨qi, 0, none⟩ = some (.int .u64 (P.wrd I 0)) := bs.cell 0 _ rfl
      have cc1 : w'.cell? ⟨qi, 1, none⟩ = some (.int .u64 (P.wrd I 1)) := bs.cell 1 _ rfl
      have cc2 : w'.cell? ⟨qi, 2, none⟩ = some (.int .u64 (P.wrd I 2)) := bs.cell 2 _ rfl
      have cc3 : w'.cell? ⟨qi, 3, none⟩ = some (.int .u64 (P.wrd I 3)) := bs.cell 3 _ rfl
      clear h hn hT hgk bs
      simp [Oper.wp, execOp, go_sem, r0, cc0, cc1, cc2, cc3]
      exact hK0 _ _ (Rk.Keeps.refl _ _) rfl trivial
    · intro A w' K vals h hn hT hgk hK0
      have r0 : A.tmps[2]?.getD undef = .int .i64 p := Rg.slot h.1
      clear h hn hT hgk
      simp [Oper.wp, execOp, go_sem, r0]
      exact hK0 _ _ (Rk.Keeps.refl _ _) rfl trivial
    · intro A w' K vals h hn hT hgk hK0
      have r0 : A.tmps[7]?.getD undef = (.pointer (some ⟨qt, 0, none⟩)) := Rg.slot h.1
      have bs := ki_box hgk BQt.out BQt.out.lt
      have cc0 : w'.cell? ⟨qt, 0, none⟩ = some (.int .u64 (P.wrd To 0)) := bs.cell 0 _ rfl
      have cc1 : w'.cell? ⟨qt, 1, none⟩ = some (.int .u64 (P.wrd To 1)) := bs.cell 1 _ rfl
      have cc2 : w'.cell? ⟨qt, 2, none⟩ = some (.int .u64 (P.wrd To 2)) := bs.cell 2 _ rfl
      have cc3 : w'.cell? ⟨qt, 3, none⟩ = some (.int .u64 (P.wrd To 3)) := bs.cell 3 _ rfl
      clear h hn hT hgk bs
      simp [Oper.wp, execOp, go_sem, r0, cc0, cc1, cc2, cc3]
      exact hK0 _ _ (Rk.Keeps.refl _ _) rfl trivial
    · intro A w' K vals h hn hT hgk hK0
      have r0 : A.tmps[17]?.getD undef = vals 3 := Rg.slot h.2.1
      have r1 : A.tmps[18]?.getD undef = vals 4 := Rg.slot h.2.2.1
      have r2 : A.tmps[19]?.getD undef = vals 5 := Rg.slot h.2.2.2.1
      have r3 : A.tmps[20]?.getD undef = vals 6 := Rg.slot h.2.2.2.2.1
      have s0 : vals 3 = .agg #[.slice (some ⟨ba, oa, none⟩) n ka, .slice (some ⟨bb, ob, none⟩) n kb, .slice (some ⟨bc_, oc, none⟩) n kc] := hn.1
      have s1 : vals 4 = .agg #[.int .u64 (P.wrd I 0), .int .u64 (P.wrd I 1), .int .u64 (P.wrd I 2), .int .u64 (P.wrd I 3)] := hn.2.1
      have s2 : vals 5 = .int .i64 p := hn.2.2.1
      have s3 : vals 6 = .agg #[.int .u64 (P.wrd To 0), .int .u64 (P.wrd To 1), .int .u64 (P.wrd To 2), .int .u64 (P.wrd To 3)] := hn.2.2.2.1
      have hsz := hgk.size
      have hb := HS.out.low.trans ((ki_below hgk (Nat.le_refl _)).mono HS.out.low.size)
      clear h hn hT
      simp [Oper.wp, go_sem, r0, r1, r2, r3, s0, s1, s2, s3]
      refine (attract_any g I To p _ w' (HV.out.on hb) (T.out.on hb)).mono ?_
      rintro e w'' ⟨v, m, rfl, ho, hpl, hb⟩
      rw [if_pos ⟨HOK.out, HP.out⟩] at hpl
      obtain ⟨x, k, rfl, -⟩ := own_at ho
      exact hK0 _ _ (Rk.keep_of (grown_of_below hb _)) ⟨x, k, m, rfl, own_more ho hsz, hpl⟩ trivial
    · intro A w' K vals h hn hT hgk hK0
      have r0 : A.tmps[21]?.getD undef = vals 7 := Rg.slot h.1
      have n3 : (∃ x k m, vals 7 = .tuple #[.agg #[.int .u64 (P.wrd (P.attOf g I p To) 0), .int .u64 (P.wrd (P.attOf g I p To) 1), .int .u64 (P.wrd (P.attOf g I p To) 2), .int .u64 (P.wrd (P.attOf g I p To) 3)], .slice x m.length k] ∧ OwnI w' w2.heap.size (.slice x m.length k) m ∧ P.Played g (I &&& P.full (g.owner.length : Int)) p To m) := hn.1
      clear h hn hT hgk
      simp [Oper.wp, execOp, go_sem, r0]
      exact hK0 _ _ (Rk.Keeps.refl _ _) ⟨rfl, n3⟩ trivial
    · intro A w' K vals h hn hT hgk hK0
      have r0 : A.tmps[13]?.getD undef = vals 8 := Rg.slot h.1
      obtain ⟨x, k, m, hv, ho, hpl⟩ : (∃ x k m, vals 8 = .tuple #[.agg #[.int .u64 (P.wrd (P.attOf g I p To) 0), .int .u64 (P.wrd (P.attOf g I p To) 1), .int .u64 (P.wrd (P.attOf g I p To) 2), .int .u64 (P.wrd (P.attOf g I p To) 3)], .slice x m.length k] ∧ OwnI w' w2.heap.size (.slice x m.length k) m ∧ P.Played g (I &&& P.full (g.owner.length : Int)) p To m) := hn.1.2
      clear h hn hT hgk
      simp [Oper.wp, execOp, go_sem, r0, hv]
      exact hK0 _ _ (Rk.Keeps.refl _ _) rfl trivial
    · intro A w' K vals h hn hT hgk hK0
      have r0 : A.tmps[13]?.getD undef = vals 8 := Rg.slot h.1
      obtain ⟨x, k, m, hv, ho, hpl⟩ : (∃ x k m, vals 8 = .tuple #[.agg #[.int .u64 (P.wrd (P.attOf g I p To) 0), .int .u64 (P.wrd (P.attOf g I p To) 1), .int .u64 (P.wrd (P.attOf g I p To) 2), .int .u64 (P.wrd (P.attOf g I p To) 3)], .slice x m.length k] ∧ OwnI w' w2.heap.size (.slice x m.length k) m ∧ P.Played g (I &&& P.full (g.owner.length : Int)) p To m) := hn.1.2
      clear h hn hT hgk
      simp [Oper.wp, execOp, go_sem, r0, hv]
      exact hK0 _ _ (Rk.Keeps.refl _ _) ⟨x, k, m, rfl, ho, hpl⟩ trivial
    · intro A w' K vals h hn hT hgk hK0
      have hsz := hgk.size
      clear h hn hT
      simp [Oper.wp, execOp, go_sem]
      exact hK0 _ _ (Rk.keep_of (World.grownBy_alloc _ _ _)) ⟨_, rfl, hsz⟩ ⟨_, rfl, hsz, Box.new _ _ _⟩
    · intro A w' K vals h hn hT hgk hK0
      have r0 : A.tmps[9]?.getD undef = vals 11 := Rg.slot h.1
      have r1 : A.tmps[22]?.getD undef = vals 9 := Rg.slot h.2.1
      obtain ⟨q, s0, hq, bs⟩ : (∃ q, vals 11 = .pointer (some ⟨q, 0, none⟩) ∧ w2.heap.size ≤ q ∧ Box w' q 37 #[.int .u64 0, .int .u64 0, .int .u64 0, .int .u64 0]) := (hT rfl).1
      have s1 : vals 9 = .agg #[.int .u64 (P.wrd (P.attOf g I p To) 0), .int .u64 (P.wrd (P.attOf g I p To) 1), .int .u64 (P.wrd (P.attOf g I p To) 2), .int .u64 (P.wrd (P.attOf g I p To) 3)] := hn.2.1
      have rc0 : w'.cell? ⟨q, 0, none⟩ = some (.int .u64 0) := bs.cell 0 _ rfl
      have rc1 : w'.cell? ⟨q, 1, none⟩ = some (.int .u64 0) := bs.cell 1 _ rfl
      have rc2 : w'.cell? ⟨q, 2, none⟩ = some (.int .u64 0) := bs.cell 2 _ rfl
      have rc3 : w'.cell? ⟨q, 3, none⟩ = some (.int .u64 0) := bs.cell 3 _ rfl
      have rf0 : w'.frozen? ⟨q, 0, none⟩ = false := bs.frozen 0
      have rf1 : w'.frozen? ⟨q, 1, none⟩ = false := bs.frozen 1
      have rf2 : w'.frozen? ⟨q, 2, none⟩ = false := bs.frozen 2
      have rf3 : w'.frozen? ⟨q, 3, none⟩ = false := bs.frozen 3
      clear h hn hT hgk
      have hK1 := hK0 undef ((((w'.setCell ⟨q, 0, none⟩ (.int .u64 (P.wrd (P.attOf g I p To) 0))).setCell ⟨q, 1, none⟩ (.int .u64 (P.wrd (P.attOf g I p To) 1))).setCell ⟨q, 2, none⟩ (.int .u64 (P.wrd (P.attOf g I p To) 2))).setCell ⟨q, 3, none⟩ (.int .u64 (P.wrd (P.attOf g I p To) 3))) (ki_set4 hq bs (by decide) _ _ _ _) ⟨q, s0, hq, ((((bs.set 0 (.int .u64 (P.wrd (P.attOf g I p To) 0))).set 1 (.int .u64 (P.wrd (P.attOf g I p To) 1))).set 2 (.int .u64 (P.wrd (P.attOf g I p To) 2))).set 3 (.int .u64 (P.wrd (P.attOf g I p To) 3)))⟩ trivial
      clear hK0 bs
      simp [Oper.wp, execOp, go_sem, r0, r1, s0, s1, rc0, rc1, rc2, rc3, rf0, rf1, rf2, rf3]
      exact hK1
  · refine ⟨?_, ?_, ?_, ?_, ?_, ?_, ?_, ?_, ?_, ?_, ?_, ?_, ?_, trivial⟩
    · exact fun _ _ _ _ _ _ h => h
    · exact fun _ _ _ _ _ _ h => h
    · exact fun _ _ _ _ _ _ h => h
    · exact fun _ _ _ _ _ _ h => h
    · exact fun _ _ _ _ _ _ h => h
    · exact fun _ _ _ _ _ _ h => h
    · exact fun _ _ _ _ _ _ h => h
    · exact fun _ _ _ _ _ h ⟨x, k, m, h1, h2, h3⟩ => ⟨x, k, m, h1, ki_own h2 h, h3⟩
    · exact fun _ _ _ _ _ h ⟨h0, x, k, m, h1, h2, h3⟩ => ⟨h0, x, k, m, h1, ki_own h2 h, h3⟩
    · exact fun _ _ _ _ _ _ h => h
    · exact fun _ _ _ _ _ h ⟨x, k, m, h1, h2, h3⟩ => ⟨x, k, m, h1, ki_own h2 h, h3⟩
    · exact fun _ _ _ _ _ _ h => h
    · exact fun _ _ _ _ _ h ⟨q, h1, h2, h3⟩ => ⟨q, h1, h2, h3.keep (Rk.grown_of h)⟩
  · intro k v ds w w' hk h
    match k, h with
    | 11, ⟨q, h1, h2, h3⟩ => exact ⟨q, h1, h2, h3.keep (Rk.grown_of hk)⟩
    | 0, _ | 1, _ | 2, _ | 3, _ | 4, _ | 5, _ | 6, _ | 7, _ | 8, _ | 9, _ | 10, _ | _ + 12, _ => trivial
  · intro vals w4 G hgk hS hG
    obtain ⟨x, km, m, s10, hom, hpl⟩ : (∃ x k m, vals 10 = .slice x m.length k ∧ OwnI w4 w2.heap.size (.slice x m.length k) m ∧ P.Played g (I &&& P.full (g.owner.length : Int)) p To m) := hS.2.2.2.2.2.2.2.2.2.2.1
    obtain ⟨qn, s11, hqn⟩ : ∃ q, vals 11 = .pointer (some ⟨q, 0, none⟩) ∧ w2.heap.size ≤ q := hS.2.2.2.2.2.2.2.2.2.2.2.1
    obtain ⟨q2, e2, -, hbn⟩ : ∃ q, vals 11 = .pointer (some ⟨q, 0, none⟩) ∧ w2.heap.size ≤ q ∧ Box w4 q 37 #[.int .u64 (P.wrd (P.attOf g I p To) 0), .int .u64 (P.wrd (P.attOf g I p To) 1), .int .u64 (P.wrd (P.attOf g I p To) 2), .int .u64 (P.wrd (P.attOf g I p To) 3)] := hS.2.2.2.2.2.2.2.2.2.2.2.2.1
    clear hS
    obtain rfl : qn = q2 := by rw [s11] at e2; injection e2 with e2; injection e2 with e2; injection e2
    have hml : m.length = n := by
      obtain ⟨A_, Q_, o_, v_, -, hm⟩ := hpl
      rw [hm, P.rowOf_len, HN.out]
    rw [hml] at hom s10
    obtain ⟨bm, km2, e3, hlo, hlt, hcm, -⟩ := own_form (show w4.ownsRow w2.heap.size 3 1 (.slice x n km) n (m.map (Value.int .i64)) by unfold OwnI at hom; rw [hml] at hom; exact hom) h0
    injection e3 with e3 _ e4
    subst e3 e4
    have hb := ki_below hgk (Nat.le_refl _)
    have HB24 := Lib.hid hb
    replace HS := Lib.hid (HS.out.on hb)
    replace BQi := Lib.hid (BQi.out.keep (grown_of_below hb none))
    replace BQt := Lib.hid (BQt.out.keep (grown_of_below hb none))
    replace BQr := Lib.hid (BQr.out.keep (grown_of_below hb none))
    replace W := Lib.hid (W.out.trans (hb.mono W.out.size))
    have BQn := Lib.hid hbn
    have HPL := Lib.hid hpl
    have hq2 := HQ2.out
    have hsz := HSZ.out
    have hlt1 := LTit.out
    have hlt2 := LTtr.out
    have hle := LEi.out
    have hw2 := HW2.out
    have HMC := Lib.hid (show ∀ j, j < n → w4.cell? ⟨bm, j, none⟩ = some (.int .i64 (m.getD j (-1))) from fun j hj => hcm j _ (by
      rw [List.getElem?_map, List.getD_eq_getElem?_getD, List.getElem?_eq_getElem (by omega)]
      rfl))
    have HBM : Hid (bm < w4.heap.size ∧ bm ∉ [qs, pc]) := Lib.hid ⟨hlt, by simp; omega⟩
    have HNR : Hid (qr ≠ qs ∧ qr ≠ pc) := Lib.hid (by omega)
    have HNN : Hid (qn ≠ qs ∧ qn ≠ pc) := Lib.hid (by omega)
    have HRW : Hid (w.heap.size ≤ qr) := Lib.hid (by omega)
    have HRL : Hid (w0.heap.size ≤ qr) := Lib.hid (by omega)
    have HK4 : Hid (SlK qs pc w w4) := Lib.hid (SlK.of W.out)
    clear hb hgk hom hpl hml hcm hlo hlt hbn hqn e2 hq2 hsz hlt1 hlt2 hle hw2
    refine hG ?_
    clear hG
    simp only [List.take, List.drop, List.length, Nat.reduceSub, Nat.reduceAdd, Rg.putAll, Act.put, List.setIfInBounds_toArray, List.set_cons_succ, List.set_cons_zero, s10, s11]
    clear s10 s11
    go_wp2_with fail
    go_loopw [26] (fun iv wr => ∃ k : Nat, k ≤ n ∧ iv = .int .i64 (k : Int) ∧ Sl w0 wr qs pc n kq (.slice (some ⟨ba, oa, none⟩) n ka) (.slice (some ⟨bb, ob, none⟩) n kb) (.slice (some ⟨bc_, oc, none⟩) n kc) (P.frcK c m k) d ∧ SlK qs pc w4 wr) (fun iv _ => n - (intOf iv).toNat)
    case atStart => exact ⟨0, Nat.zero_le _, rfl, by rw [P.frcK_zero]; exact HS.out, SlK.refl _ _ _⟩
    case round =>
      obtain ⟨k, hk, rfl, hs, hkx⟩ := hrel
      have HS2 := Lib.hid hs
      have HK2 := Lib.hid hkx
      have hk0 : (0 : Int) ≤ (k : Int) := Int.natCast_nonneg _
      clear hs hkx
      by_cases hlt : k < n
      · have fk : decide ((k : Int) < (n : Int)) = true := decide_eq_true (by omega)
        have hki : (k : Int) < (n : Int) := by omega
        have hc := kx_cell HK2.out (HMC.out k hlt) HBM.out.1 HBM.out.1 HBM.out.2
        obtain ⟨y, hy⟩ : ∃ y, m.getD k (-1) = y := ⟨_, rfl⟩
        rw [hy] at hc
        have HY := Lib.hid hy
        clear hy
        by_cases hy1 : y = -1
        · have fy : (y != -1) = false := by rw [bne_eq_false_iff_eq]; exact hy1
          have HSK := Lib.hid (show P.frcK c m (k + 1) = P.frcK c m k from P.frcK_skip (by rw [HY.out]; exact hy1))
          clear hy1
          go_wp2_with fail
          clear hc
          go_roundw
          case rel => exact ⟨k + 1, by omega, by first | rfl | go_num, by rw [HSK.out]; exact HS2.out, HK2.out⟩
          case measure => simp [intOf]; omega
        · have fy : (y != -1) = true := by rw [bne_iff_ne]; exact hy1
          have HSK := Lib.hid (show P.frcK c m (k + 1) = (P.frcK c m k).set k y from by rw [P.frcK_set (by rw [HY.out]; exact hy1) (by rw [HCL.out]; exact hlt), HY.out])
          have HS3 := Lib.hid (HS2.out.set k y)
          have HK3 := Lib.hid (HK2.out.trans (SlK.set (.inr rfl) k (.int .i64 y)))
          obtain ⟨cc_, cf_⟩ := HS2.out.cellc hlt
          have hbb := HS2.out.box
          have sc0 : wr.cell? ⟨qs, 0, none⟩ = some (.slice (some ⟨ba, oa, none⟩) n ka) := hbb.cell 0 _ rfl
          have sc1 : wr.cell? ⟨qs, 1, none⟩ = some (.slice (some ⟨bb, ob, none⟩) n kb) := hbb.cell 1 _ rfl
          have sc2 : wr.cell? ⟨qs, 2, none⟩ = some (.slice (some ⟨bc_, oc, none⟩) n kc) := hbb.cell 2 _ rfl
          have sc3 : wr.cell? ⟨qs, 3, none⟩ = some (.slice (some ⟨pc, 0, none⟩) n kq) := hbb.cell 3 _ rfl
          have sc4 : wr.cell? ⟨qs, 4, none⟩ = some (.int .i64 d) := hbb.cell 4 _ rfl
          clear hbb
          clear hy1
          go_wp2_with fail
          clear hc cc_ cf_ sc0 sc1 sc2 sc3 sc4
          go_roundw
          case rel => exact ⟨k + 1, by omega, by first | rfl | go_num, by rw [HSK.out]; exact HS3.out, HK3.out⟩
          case measure => simp [intOf]; omega
      · have fk : decide ((k : Int) < (n : Int)) = false := decide_eq_false (by omega)
        have HFR := Lib.hid (show P.frcK c m k = P.frc c m from by rw [show k = c.length by rw [HCL.out]; omega]; exact P.frcK_all)
        have BQr := Lib.hid (HK2.out.box BQr.out HNR.out.1 HNR.out.2)
        have BQn := Lib.hid (HK2.out.box BQn.out HNN.out.1 HNN.out.2)
        have HKW := Lib.hid (HK4.out.trans HK2.out)
        have hbb := BQr.out
        have rc0 : wr.cell? ⟨qr, 0, none⟩ = some (.int .u64 0) := hbb.cell 0 _ rfl
        have rc1 : wr.cell? ⟨qr, 1, none⟩ = some (.int .u64 0) := hbb.cell 1 _ rfl
        have rc2 : wr.cell? ⟨qr, 2, none⟩ = some (.int .u64 0) := hbb.cell 2 _ rfl
        have rc3 : wr.cell? ⟨qr, 3, none⟩ = some (.int .u64 0) := hbb.cell 3 _ rfl
        have rf0 : wr.frozen? ⟨qr, 0, none⟩ = false := hbb.frozen 0
        have rf1 : wr.frozen? ⟨qr, 1, none⟩ = false := hbb.frozen 1
        have rf2 : wr.frozen? ⟨qr, 2, none⟩ = false := hbb.frozen 2
        have rf3 : wr.frozen? ⟨qr, 3, none⟩ = false := hbb.frozen 3
        clear hbb
        have hbb := BQn.out
        have nc0 : wr.cell? ⟨qn, 0, none⟩ = some (.int .u64 (P.wrd (P.attOf g I p To) 0)) := hbb.cell 0 _ rfl
        have nc1 : wr.cell? ⟨qn, 1, none⟩ = some (.int .u64 (P.wrd (P.attOf g I p To) 1)) := hbb.cell 1 _ rfl
        have nc2 : wr.cell? ⟨qn, 2, none⟩ = some (.int .u64 (P.wrd (P.attOf g I p To) 2)) := hbb.cell 2 _ rfl
        have nc3 : wr.cell? ⟨qn, 3, none⟩ = some (.int .u64 (P.wrd (P.attOf g I p To) 3)) := hbb.cell 3 _ rfl
        clear hbb
        have BZ : Box ((((wr.setCell ⟨qr, 0, none⟩ (.int .u64 (P.wrd (P.attOf g I p To) 0))).setCell ⟨qr, 1, none⟩ (.int .u64 (P.wrd (P.attOf g I p To) 1))).setCell ⟨qr, 2, none⟩ (.int .u64 (P.wrd (P.attOf g I p To) 2))).setCell ⟨qr, 3, none⟩ (.int .u64 (P.wrd (P.attOf g I p To) 3))) qr 37 #[.int .u64 (P.wrd (P.attOf g I p To) 0), .int .u64 (P.wrd (P.attOf g I p To) 1), .int .u64 (P.wrd (P.attOf g I p To) 2), .int .u64 (P.wrd (P.attOf g I p To) 3)] := ((((BQr.out.set 0 (.int .u64 (P.wrd (P.attOf g I p To) 0))).set 1 (.int .u64 (P.wrd (P.attOf g I p To) 1))).set 2 (.int .u64 (P.wrd (P.attOf g I p To) 2))).set 3 (.int .u64 (P.wrd (P.attOf g I p To) 3)))
        have zc0 : ((((wr.setCell ⟨qr, 0, none⟩ (.int .u64 (P.wrd (P.attOf g I p To) 0))).setCell ⟨qr, 1, none⟩ (.int .u64 (P.wrd (P.attOf g I p To) 1))).setCell ⟨qr, 2, none⟩ (.int .u64 (P.wrd (P.attOf g I p To) 2))).setCell ⟨qr, 3, none⟩ (.int .u64 (P.wrd (P.attOf g I p To) 3))).cell? ⟨qr, 0, none⟩ = some (.int .u64 (P.wrd (P.attOf g I p To) 0)) := BZ.cell 0 _ rfl
        have zc1 : ((((wr.setCell ⟨qr, 0, none⟩ (.int .u64 (P.wrd (P.attOf g I p To) 0))).setCell ⟨qr, 1, none⟩ (.int .u64 (P.wrd (P.attOf g I p To) 1))).setCell ⟨qr, 2, none⟩ (.int .u64 (P.wrd (P.attOf g I p To) 2))).setCell ⟨qr, 3, none⟩ (.int .u64 (P.wrd (P.attOf g I p To) 3))).cell? ⟨qr, 1, none⟩ = some (.int .u64 (P.wrd (P.attOf g I p To) 1)) := BZ.cell 1 _ rfl
        have zc2 : ((((wr.setCell ⟨qr, 0, none⟩ (.int .u64 (P.wrd (P.attOf g I p To) 0))).setCell ⟨qr, 1, none⟩ (.int .u64 (P.wrd (P.attOf g I p To) 1))).setCell ⟨qr, 2, none⟩ (.int .u64 (P.wrd (P.attOf g I p To) 2))).setCell ⟨qr, 3, none⟩ (.int .u64 (P.wrd (P.attOf g I p To) 3))).cell? ⟨qr, 2, none⟩ = some (.int .u64 (P.wrd (P.attOf g I p To) 2)) := BZ.cell 2 _ rfl
        have zc3 : ((((wr.setCell ⟨qr, 0, none⟩ (.int .u64 (P.wrd (P.attOf g I p To) 0))).setCell ⟨qr, 1, none⟩ (.int .u64 (P.wrd (P.attOf g I p To) 1))).setCell ⟨qr, 2, none⟩ (.int .u64 (P.wrd (P.attOf g I p To) 2))).setCell ⟨qr, 3, none⟩ (.int .u64 (P.wrd (P.attOf g I p To) 3))).cell? ⟨qr, 3, none⟩ = some (.int .u64 (P.wrd (P.attOf g I p To) 3)) := BZ.cell 3 _ rfl
        have HCE := Lib.hid (And.intro zc0 (And.intro zc1 (And.intro zc2 zc3)))
        have HS5 := Lib.hid ((((HS2.out.far HNR.out.1.symm HNR.out.2.symm HRL.out 0 (.int .u64 (P.wrd (P.attOf g I p To) 0))).far HNR.out.1.symm HNR.out.2.symm HRL.out 1 (.int .u64 (P.wrd (P.attOf g I p To) 1))).far HNR.out.1.symm HNR.out.2.symm HRL.out 2 (.int .u64 (P.wrd (P.attOf g I p To) 2))).far HNR.out.1.symm HNR.out.2.symm HRL.out 3 (.int .u64 (P.wrd (P.attOf g I p To) 3)))
        have HK5 := Lib.hid ((((HKW.out.fresh HRW.out 0 (.int .u64 (P.wrd (P.attOf g I p To) 0))).fresh HRW.out 1 (.int .u64 (P.wrd (P.attOf g I p To) 1))).fresh HRW.out 2 (.int .u64 (P.wrd (P.attOf g I p To) 2))).fresh HRW.out 3 (.int .u64 (P.wrd (P.attOf g I p To) 3)))
        clear BZ zc0 zc1 zc2 zc3
        go_wp2_with fail
        obtain ⟨zc0, zc1, zc2, zc3⟩ := HCE.out
        refine bodyPost_ret (v := .agg #[.int .u64 (P.wrd (P.attOf g I p To) 0), .int .u64 (P.wrd (P.attOf g I p To) 1), .int .u64 (P.wrd (P.attOf g I p To) 2), .int .u64 (P.wrd (P.attOf g I p To) 3)]) (by simp [results, Tryd.results23, go_sem, zc0, zc1, zc2, zc3]) rfl ⟨rfl, m, HPL.out, by rw [← HFR.out]; exact HS5.out, HK5.out⟩
end W
end Go.Proofs.YtghdjkpndhcplaaDoor
end
section
namespace Go.Proofs.YtghdjkpndhcplaaDoor
open Go.RowKit
namespace W

end W
namespace P
/-- The moves that are chosen once the first k of a set are through. -/
def styK (g : G) (I S : BitVec 256) (c : List Int) (k : Nat) : List Int := (List.range c.length).map fun j => if j ∈ (lst S).take k then (first I (g.moves.getD j [])).getD (c.getD j (-1)) else c.getD j (-1)
theorem styK_at {g : G} {I S : BitVec 256} {c : List Int} {k j : Nat} (hj : j < c.length) : (styK g I S c k)[j]? = some (if j ∈ (lst S).take k then (first I (g.moves.getD j [])).getD (c.getD j (-1)) else c.getD j (-1)) := by
  unfold styK
  rw [List.getElem?_map, List.getElem?_range hj]
  rfl
theorem styK_len (g : G) (I S : BitVec 256) (c : List Int) (k : Nat) : (styK g I S c k).length = c.length := by unfold styK; simp
theorem styK_ext {g : G} {I S : BitVec 256} {c l : List Int} {k : Nat} (hl : l.length = c.length) (h : ∀ j, j < c.length → l[j]? = some (if j ∈ (lst S).take k then (first I (g.moves.getD j [])).getD (c.getD j (-1)) else c.getD j (-1))) : styK g I S c k = l := by
  apply List.ext_getElem?
  intro j
  by_cases hj : j < c.length
  · rw [styK_at hj, h j hj]
  · rw [List.getElem?_eq_none (by rw [styK_len]; omega), List.getElem?_eq_none (by omega)]
theorem styK_zero (g : G) (I S : BitVec 256) (c : List Int) : styK g I S c 0 = c := styK_ext rfl fun j hj => by
  rw [List.take_zero, if_neg (by simp), List.getD_eq_getElem?_getD, List.getElem?_eq_getElem hj]
  rfl
theorem mem_take_succ {l : List Nat} {k j : Nat} (hk : k < l.length) : j ∈ l.take (k + 1) ↔ j ∈ l.take k ∨ j = l.getD k 0 := by
  rw [List.take_add_one, List.getElem?_eq_getElem hk, List.mem_append, List.getD_eq_getElem?_getD, List.getElem?_eq_getElem hk]
  simp
theorem styK_none {g : G} {I S : BitVec 256} {c : List Int} {k : Nat} (hk : k < (lst S).length) (h : first I (g.moves.getD ((lst S).getD k 0) []) = none) : styK g I S c (k + 1) = styK g I S c k := by
  refine (styK_ext (styK_len _ _ _ _ _) fun j hj => ?_).symm.symm
  rw [styK_at hj]
  congr 1
  by_cases e : j = (lst S).getD k 0
  · rw [if_pos ((mem_take_succ hk).2 (.inr e)), e, h]
    split <;> rfl
  · by_cases h1 : j ∈ (lst S).take k
    · rw [if_pos h1, if_pos ((mem_take_succ hk).2 (.inl h1))]
    · rw [if_neg h1, if_neg (fun h2 => ((mem_take_succ hk).1 h2).elim h1 e)]
theorem styK_some {g : G} {I S : BitVec 256} {c : List Int} {k : Nat} {y : Int} (hk : k < (lst S).length) (h : first I (g.moves.getD ((lst S).getD k 0) []) = some y) (hc : (lst S).getD k 0 < c.length) : styK g I S c (k + 1) = (styK g I S c k).set ((lst S).getD k 0) y := by
  refine styK_ext (by rw [List.length_set, styK_len]) fun j hj => ?_
  by_cases e : j = (lst S).getD k 0
  · rw [if_pos ((mem_take_succ hk).2 (.inr e)), e, h, List.getElem?_set_self (by rw [styK_len]; exact hc)]
    rfl
  · rw [List.getElem?_set_ne (Ne.symm e), styK_at hj]
    congr 1
    by_cases h1 : j ∈ (lst S).take k
    · rw [if_pos h1, if_pos ((mem_take_succ hk).2 (.inl h1))]
    · rw [if_neg h1, if_neg (fun h2 => ((mem_take_succ hk).1 h2).elim h1 e)]
theorem styK_all {g : G} {p : Int} {I T : BitVec 256} {c : List Int} {k : Nat} (hc : c.length = g.owner.length) (hn : g.owner.length ≤ 256) (hk : (lst (T &&& places p g.owner g.owner.length)).length ≤ k) : styK g I (T &&& places p g.owner g.owner.length) c k = sty g p I T c := by
  refine styK_ext (sty_len _ _ _ _ _) fun j hj => ?_
  unfold sty
  rw [List.getElem?_map, List.getElem?_range hj]
  show some (if T.getLsbD j = true ∧ g.owner.getD j 0 = p then _ else _) = some _
  congr 1
  have e : j ∈ (lst (T &&& places p g.owner g.owner.length)).take k ↔ T.getLsbD j = true ∧ g.owner.getD j 0 = p := by
    rw [List.take_of_length_le hk, mem_lst, BitVec.getLsbD_and, getLsbD_places p g.owner j (by omega), Bool.and_eq_true, Bool.and_eq_true, decide_eq_true_eq, decide_eq_true_eq]
    exact ⟨fun h => ⟨h.1, h.2.2⟩, fun h => ⟨h.1, by omega, h.2⟩⟩
  by_cases h1 : T.getLsbD j = true ∧ g.owner.getD j 0 = p
  · rw [if_pos h1, if_pos (e.2 h1)]
  · rw [if_neg h1, if_neg (fun h2 => h1 (e.1 h2))]
end P
namespace W
theorem lists_at {w : World} {lo lo' : Nat} {v : Value} {l : List Nat} (h : w.ownsRow lo 3 1 v l.length (P.vals l)) (hl : lo' ≤ lo) : ∃ ao kl, v = .slice ao l.length kl ∧ (l = [] ∨ ∃ b, ao = some ⟨b, 0, none⟩ ∧ lo' ≤ b ∧ b < w.heap.size ∧ ∀ j, j < l.length → w.cell? ⟨b, j, none⟩ = some (.int .i64 ((l.getD j 0 : Nat) : Int))) := by
  obtain ⟨ao, k, rfl, h2⟩ := own_at h
  refine ⟨ao, k, rfl, ?_⟩
  rcases h2 with h2 | ⟨b, rfl, h3, h4, h5⟩
  · exact .inl (List.map_eq_nil_iff.1 h2)
  · refine .inr ⟨b, rfl, Nat.le_trans hl h3, h4, fun j hj => ?_⟩
    have := h5 j (.int .i64 ((l.getD j 0 : Nat) : Int)) (by
      unfold P.vals
      rw [List.getElem?_map, List.getD_eq_getElem?_getD, List.getElem?_eq_getElem hj]
      rfl)
    rw [Nat.zero_add] at this
    exact this
set_option maxRecDepth 100000 in
set_option maxHeartbeats 8000000 in
theorem stay_any (g : P.G) (hr : g.Right) (n : Nat) (hn : g.owner.length = n) (w0 : World) (ba oa ka bb ob kb bc_ oc kc : Nat) (hv : GameV w0 (.agg #[.slice (some ⟨ba, oa, none⟩) n ka, .slice (some ⟨bb, ob, none⟩) n kb, .slice (some ⟨bc_, oc, none⟩) n kc]) g) (hT : Tab w0) (qs pc kq : Nat) (c : List Int) (d : Int) (w : World) (hS : Sl w0 w qs pc n kq (.slice (some ⟨ba, oa, none⟩) n ka) (.slice (some ⟨bb, ob, none⟩) n kb) (.slice (some ⟨bc_, oc, none⟩) n kc) c d) (p : Int) (I T : BitVec 256) (hTn : ∀ i, P.Bit T i → i < n) :
    Calls Tryd.prog 25 #[.pointer (some ⟨qs, 0, none⟩), .agg #[.int .u64 (P.wrd I 0), .int .u64 (P.wrd I 1), .int .u64 (P.wrd I 2), .int .u64 (P.wrd I 3)], .int .i64 p, .agg #[.int .u64 (P.wrd T 0), .int .u64 (P.wrd T 1), .int .u64 (P.wrd T 2), .int .u64 (P.wrd T 3)]] w fun e w' => e = .returned (.tuple #[]) ∧ Sl w0 w' qs pc n kq (.slice (some ⟨ba, oa, none⟩) n ka) (.slice (some ⟨bb, ob, none⟩) n kb) (.slice (some ⟨bc_, oc, none⟩) n kc) (P.sty g p I T c) d ∧ SlK qs pc w w' := by
  have HV := Lib.hid hv
  have TB := Lib.hid hT
  have HR := Lib.hid hr
  have HN := Lib.hid hn
  have hop := hr.prio
  have hmp := hr.moves
  have hmany := hr.many
  have h0 := hr.pos
  rw [hn] at hop hmp hmany h0
  have HPN := Lib.hid hop
  obtain ⟨xba, xoa, xka, xbb, xob, xkb, xbc, xoc, xkc, e0, hca, hcb, hcc⟩ := hv.open_ hn hop hmp h0
  injection e0 with e0
  obtain ⟨⟨⟨rfl, rfl⟩, rfl⟩, ⟨⟨rfl, rfl⟩, rfl⟩, ⟨rfl, rfl⟩, rfl⟩ : (((ba = xba ∧ oa = xoa) ∧ ka = xka) ∧ ((bb = xbb ∧ ob = xob) ∧ kb = xkb) ∧ (bc_ = xbc ∧ oc = xoc) ∧ kc = xkc) := by simpa using e0
  have HCA := Lib.hid hca
  have HCB := Lib.hid hcb
  have HCC := Lib.hid hcc
  clear e0 hca hcb hcc hv hT hr hn hop hmp
  have HS := Lib.hid hS
  have HTN := Lib.hid hTn
  have HCL := Lib.hid hS.len
  have HQ2 : Hid (qs < w.heap.size ∧ pc < w.heap.size) := Lib.hid ⟨hS.box.lt, hS.plo.2⟩
  clear hS hTn
  have hmf : ∀ (fn : Fn) (first cap : Array Value) (w : World), (Instr.makeFunc fn first cap).run Tryd.prog w = .ok (.func fn first cap) w := fun _ _ _ _ => rfl
  go_enter Tryd.func25, Tryd.ntmps25
  go_upto_region 1 with (fail)
  have bx0 : Box ((w.alloc (.cells #[.int .u64 (P.wrd I 0), .int .u64 (P.wrd I 1), .int .u64 (P.wrd I 2), .int .u64 (P.wrd I 3)] 37)).alloc (.cells #[.int .u64 (P.wrd T 0), .int .u64 (P.wrd T 1), .int .u64 (P.wrd T 2), .int .u64 (P.wrd T 3)] 37)) (w.heap.size) 37 #[.int .u64 (P.wrd I 0), .int .u64 (P.wrd I 1), .int .u64 (P.wrd I 2), .int .u64 (P.wrd I 3)] := Box.alloc (Box.new w 37 #[.int .u64 (P.wrd I 0), .int .u64 (P.wrd I 1), .int .u64 (P.wrd I 2), .int .u64 (P.wrd I 3)]) (.cells #[.int .u64 (P.wrd T 0), .int .u64 (P.wrd T 1), .int .u64 (P.wrd T 2), .int .u64 (P.wrd T 3)] 37)
  have bx1 : Box ((w.alloc (.cells #[.int .u64 (P.wrd I 0), .int .u64 (P.wrd I 1), .int .u64 (P.wrd I 2), .int .u64 (P.wrd I 3)] 37)).alloc (.cells #[.int .u64 (P.wrd T 0), .int .u64 (P.wrd T 1), .int .u64 (P.wrd T 2), .int .u64 (P.wrd T 3)] 37)) (w.heap.size + 1) 37 #[.int .u64 (P.wrd T 0), .int .u64 (P.wrd T 1), .int .u64 (P.wrd T 2), .int .u64 (P.wrd T 3)] := by
    have := Box.new (w.alloc (.cells #[.int .u64 (P.wrd I 0), .int .u64 (P.wrd I 1), .int .u64 (P.wrd I 2), .int .u64 (P.wrd I 3)] 37)) 37 #[.int .u64 (P.wrd T 0), .int .u64 (P.wrd T 1), .int .u64 (P.wrd T 2), .int .u64 (P.wrd T 3)]
    simpa using this
  have hbq : Below w.heap.size w ((w.alloc (.cells #[.int .u64 (P.wrd I 0), .int .u64 (P.wrd I 1), .int .u64 (P.wrd I 2), .int .u64 (P.wrd I 3)] 37)).alloc (.cells #[.int .u64 (P.wrd T 0), .int .u64 (P.wrd T 1), .int .u64 (P.wrd T 2), .int .u64 (P.wrd T 3)] 37)) := ((Below.refl _ w).alloc (Nat.le_refl _) _).alloc (by simp) _
  have lt0 : w.heap.size < w.heap.size + 1 := Nat.lt_succ_self _
  have hle0 : w.heap.size ≤ w.heap.size := Nat.le_refl _
  replace HS := Lib.hid (HS.out.on hbq)
  generalize ((w.alloc (.cells #[.int .u64 (P.wrd I 0), .int .u64 (P.wrd I 1), .int .u64 (P.wrd I 2), .int .u64 (P.wrd I 3)] 37)).alloc (.cells #[.int .u64 (P.wrd T 0), .int .u64 (P.wrd T 1), .int .u64 (P.wrd T 2), .int .u64 (P.wrd T 3)] 37)) = w2 at bx0 bx1 hbq HS ⊢
  have BQi := Lib.hid bx0
  have BQt := Lib.hid bx1
  have W := Lib.hid hbq
  have LTit := Lib.hid lt0
  have LEi := Lib.hid hle0
  clear hbq hle0 bx0 bx1 lt0
  generalize w.heap.size + 1 = qt at BQt LTit ⊢
  obtain ⟨qi, hqi⟩ : ∃ qi, w.heap.size = qi := ⟨_, rfl⟩
  rw [hqi] at BQi LTit ⊢
  have LEi : Hid (w.heap.size ≤ qi) := Lib.hid (by omega)
  clear hqi
  have HW2 : Hid (w.heap.size ≤ w2.heap.size) := Lib.hid W.out.size
  refine Rz.wp_region (fun idx => match idx with | 0 => (fun v _ _ => v = .agg #[.int .u64 (P.wrd T 0), .int .u64 (P.wrd T 1), .int .u64 (P.wrd T 2), .int .u64 (P.wrd T 3)]) | 1 => (fun v _ _ => v = (.pointer (some ⟨qs, 0, none⟩))) | 2 => (fun v _ _ => v = (.pointer (some ⟨qs, 0, none⟩))) | 3 => (fun v _ _ => v = (.pointer (some ⟨qs, 0, none⟩))) | 4 => (fun v _ _ => v = .agg #[.slice (some ⟨ba, oa, none⟩) n ka, .slice (some ⟨bb, ob, none⟩) n kb, .slice (some ⟨bc_, oc, none⟩) n kc]) | 5 => (fun v _ _ => v = (.int .i64 p)) | 6 => (fun v _ _ => v = .agg #[.int .u64 (P.wrd (P.places p g.owner g.owner.length) 0), .int .u64 (P.wrd (P.places p g.owner g.owner.length) 1), .int .u64 (P.wrd (P.places p g.owner g.owner.length) 2), .int .u64 (P.wrd (P.places p g.owner g.owner.length) 3)]) | 7 => (fun v _ _ => v = .agg #[.int .u64 (P.wrd (T &&& P.places p g.owner g.owner.length) 0), .int .u64 (P.wrd (T &&& P.places p g.owner g.owner.length) 1), .int .u64 (P.wrd (T &&& P.places p g.owner g.owner.length) 2), .int .u64 (P.wrd (T &&& P.places p g.owner g.owner.length) 3)]) | 8 => (fun v _ w' => (∃ ao kl, v = .slice ao (P.lst (T &&& P.places p g.owner g.owner.length)).length kl ∧ (P.lst (T &&& P.places p g.owner g.owner.length) = [] ∨ ∃ b, ao = some ⟨b, 0, none⟩ ∧ w2.heap.size ≤ b ∧ b < w'.heap.size ∧ ∀ j, j < (P.lst (T &&& P.places p g.owner g.owner.length)).length → w'.cell? ⟨b, j, none⟩ = some (.int .i64 (((P.lst (T &&& P.places p g.owner g.owner.length)).getD j 0 : Nat) : Int))))) | 9 => (fun v _ _ => v = .int .i64 (((P.lst (T &&& P.places p g.owner g.owner.length)).length : Nat) : Int)) | 10 => (fun v _ _ => v = (.int .i64 0)) | _ => fun _ _ _ => True) (fun _ _ _ _ => True) (Rk.allK) 99 (by kernel_rfl) (by kernel_rfl) (by rfl) ?_ ?_ ?_ ?_
  · refine ⟨?_, ?_, ?_, ?_, ?_, ?_, ?_, ?_, ?_, ?_, ?_, trivial⟩
    · intro A w' K vals h hn hT hgk hK0
      have r0 : A.tmps[7]?.getD undef = (.pointer (some ⟨qt, 0, none⟩)) := Rg.slot h.1
      have bs := BQt.out.keep (Rk.grown_of hgk)
      have cc0 : w'.cell? ⟨qt, 0, none⟩ = some (.int .u64 (P.wrd T 0)) := bs.cell 0 _ rfl
      have cc1 : w'.cell? ⟨qt, 1, none⟩ = some (.int .u64 (P.wrd T 1)) := bs.cell 1 _ rfl
      have cc2 : w'.cell? ⟨qt, 2, none⟩ = some (.int .u64 (P.wrd T 2)) := bs.cell 2 _ rfl
      have cc3 : w'.cell? ⟨qt, 3, none⟩ = some (.int .u64 (P.wrd T 3)) := bs.cell 3 _ rfl
      clear h hn hT hgk bs
      simp [Oper.wp, execOp, go_sem, r0, cc0, cc1, cc2, cc3]
      exact hK0 _ _ (Rk.Keeps.refl _ _) rfl trivial
    · intro A w' K vals h hn hT hgk hK0
      have r0 : A.tmps[0]?.getD undef = .pointer (some ⟨qs, 0, none⟩) := Rg.slot h.1
      clear h hn hT hgk
      simp [Oper.wp, execOp, go_sem, r0]
      exact hK0 _ _ (Rk.Keeps.refl _ _) rfl trivial
    · intro A w' K vals h hn hT hgk hK0
      have r0 : A.tmps[13]?.getD undef = vals 1 := Rg.slot h.1
      have s0 : vals 1 = .pointer (some ⟨qs, 0, none⟩) := hn.1
      clear h hn hT hgk
      simp [Oper.wp, execOp, go_sem, r0, s0]
      exact hK0 _ _ (Rk.Keeps.refl _ _) rfl trivial
    · intro A w' K vals h hn hT hgk hK0
      have r0 : A.tmps[14]?.getD undef = vals 2 := Rg.slot h.1
      have s0 : vals 2 = .pointer (some ⟨qs, 0, none⟩) := hn.1
      clear h hn hT hgk
      simp [Oper.wp, execOp, go_sem, r0, s0]
      exact hK0 _ _ (Rk.Keeps.refl _ _) rfl trivial
    · intro A w' K vals h hn hT hgk hK0
      have r0 : A.tmps[15]?.getD undef = vals 3 := Rg.slot h.1
      have r1 : vals 3 = (.pointer (some ⟨qs, 0, none⟩)) := hn.1
      have bs := HS.out.box.keep (Rk.grown_of hgk)
      have cc0 : w'.cell? ⟨qs, 0, none⟩ = some (.slice (some ⟨ba, oa, none⟩) n ka) := bs.cell 0 _ rfl
      have cc1 : w'.cell? ⟨qs, 1, none⟩ = some (.slice (some ⟨bb, ob, none⟩) n kb) := bs.cell 1 _ rfl
      have cc2 : w'.cell? ⟨qs, 2, none⟩ = some (.slice (some ⟨bc_, oc, none⟩) n kc) := bs.cell 2 _ rfl
      clear h hn hT hgk bs
      simp [Oper.wp, execOp, go_sem, r0, r1, cc0, cc1, cc2]
      exact hK0 _ _ (Rk.Keeps.refl _ _) rfl trivial
    · intro A w' K vals h hn hT hgk hK0
      have r0 : A.tmps[2]?.getD undef = .int .i64 p := Rg.slot h.1
      clear h hn hT hgk
      simp [Oper.wp, execOp, go_sem, r0]
      exact hK0 _ _ (Rk.Keeps.refl _ _) rfl trivial
    · intro A w' K vals h hn hT hgk hK0
      have r0 : A.tmps[16]?.getD undef = vals 4 := Rg.slot h.2.1
      have r1 : A.tmps[17]?.getD undef = vals 5 := Rg.slot h.2.2.1
      have s0 : vals 4 = .agg #[.slice (some ⟨ba, oa, none⟩) n ka, .slice (some ⟨bb, ob, none⟩) n kb, .slice (some ⟨bc_, oc, none⟩) n kc] := hn.1
      have s1 : vals 5 = .int .i64 p := hn.2.1
      have hb := HS.out.low.trans ((below_of_grown (Rk.grown_of hgk)).mono HS.out.low.size)
      clear h hn hT hgk
      simp [Oper.wp, go_sem, r0, r1, s0, s1]
      refine (own_any g _ p w' (HV.out.on hb)).mono ?_
      rintro e w'' ⟨rfl, hb⟩
      exact hK0 _ _ (Rk.keep_of (grown_of_below hb _)) rfl trivial
    · intro A w' K vals h hn hT hgk hK0
      have r0 : A.tmps[12]?.getD undef = vals 0 := Rg.slot h.2.1
      have r1 : A.tmps[18]?.getD undef = vals 6 := Rg.slot h.2.2.1
      have s0 : vals 0 = .agg #[.int .u64 (P.wrd T 0), .int .u64 (P.wrd T 1), .int .u64 (P.wrd T 2), .int .u64 (P.wrd T 3)] := hn.1
      have s1 : vals 6 = .agg #[.int .u64 (P.wrd (P.places p g.owner g.owner.length) 0), .int .u64 (P.wrd (P.places p g.owner g.owner.length) 1), .int .u64 (P.wrd (P.places p g.owner g.owner.length) 2), .int .u64 (P.wrd (P.places p g.owner g.owner.length) 3)] := hn.2.1
      clear h hn hT hgk
      simp [Oper.wp, go_sem, r0, r1, s0, s1]
      refine (and_any _ _ w').mono ?_
      rintro e w'' ⟨rfl, hb⟩
      exact hK0 _ _ (Rk.keep_of (grown_of_below hb _)) rfl trivial
    · intro A w' K vals h hn hT hgk hK0
      have r0 : A.tmps[19]?.getD undef = vals 7 := Rg.slot h.2.1
      have s0 : vals 7 = .agg #[.int .u64 (P.wrd (T &&& P.places p g.owner g.owner.length) 0), .int .u64 (P.wrd (T &&& P.places p g.owner g.owner.length) 1), .int .u64 (P.wrd (T &&& P.places p g.owner g.owner.length) 2), .int .u64 (P.wrd (T &&& P.places p g.owner g.owner.length) 3)] := hn.1
      have hsz := hgk.size
      have hb := HS.out.low.trans ((below_of_grown (Rk.grown_of hgk)).mono HS.out.low.size)
      clear h hn hT hgk
      simp [Oper.wp, go_sem, r0, s0]
      refine (list_any (T &&& P.places p g.owner g.owner.length) w' (TB.out.on hb)).mono ?_
      rintro e w'' ⟨lv, rfl, hown, hb⟩
      exact hK0 _ _ (Rk.keep_of (grown_of_below hb _)) (lists_at hown hsz) trivial
    · intro A w' K vals h hn hT hgk hK0
      have r0 : A.tmps[20]?.getD undef = vals 8 := Rg.slot h.1
      obtain ⟨ao, kl, s0, -⟩ : (∃ ao kl, vals 8 = .slice ao (P.lst (T &&& P.places p g.owner g.owner.length)).length kl ∧ (P.lst (T &&& P.places p g.owner g.owner.length) = [] ∨ ∃ b, ao = some ⟨b, 0, none⟩ ∧ w2.heap.size ≤ b ∧ b < w'.heap.size ∧ ∀ j, j < (P.lst (T &&& P.places p g.owner g.owner.length)).length → w'.cell? ⟨b, j, none⟩ = some (.int .i64 (((P.lst (T &&& P.places p g.owner g.owner.length)).getD j 0 : Nat) : Int)))) := hn.1
      clear h hn hT hgk
      simp [Oper.wp, go_sem, r0, s0]
      exact hK0 _ _ (Rk.Keeps.refl _ _) rfl trivial
    · intro A w' K vals h hn hT hgk hK0
      clear h hn hT hgk
      simp [Oper.wp, execOp, go_sem]
      exact hK0 _ _ (Rk.Keeps.refl _ _) rfl trivial
  · refine ⟨?_, ?_, ?_, ?_, ?_, ?_, ?_, ?_, ?_, ?_, ?_, trivial⟩
    · exact fun _ _ _ _ _ _ h => h
    · exact fun _ _ _ _ _ _ h => h
    · exact fun _ _ _ _ _ _ h => h
    · exact fun _ _ _ _ _ _ h => h
    · exact fun _ _ _ _ _ _ h => h
    · exact fun _ _ _ _ _ _ h => h
    · exact fun _ _ _ _ _ _ h => h
    · exact fun _ _ _ _ _ _ h => h
    · exact fun _ _ _ _ _ h hl => by
        obtain ⟨ao, kl, h1, h2⟩ := hl
        refine ⟨ao, kl, h1, h2.imp id ?_⟩
        rintro ⟨b, h3, h4, h5, h6⟩
        exact ⟨b, h3, h4, Nat.lt_of_lt_of_le h5 h.size, fun j hj => (Rk.grown_of h).cell (h6 j hj) (by simp)⟩
    · exact fun _ _ _ _ _ _ h => h
    · exact fun _ _ _ _ _ _ h => h
  · exact fun _ _ _ _ _ _ h => h
  · intro vals w4 G hgk hS hG
    obtain ⟨ao, kl, s8, hl8⟩ : (∃ ao kl, vals 8 = .slice ao (P.lst (T &&& P.places p g.owner g.owner.length)).length kl ∧ (P.lst (T &&& P.places p g.owner g.owner.length) = [] ∨ ∃ b, ao = some ⟨b, 0, none⟩ ∧ w2.heap.size ≤ b ∧ b < w4.heap.size ∧ ∀ j, j < (P.lst (T &&& P.places p g.owner g.owner.length)).length → w4.cell? ⟨b, j, none⟩ = some (.int .i64 (((P.lst (T &&& P.places p g.owner g.owner.length)).getD j 0 : Nat) : Int)))) := hS.2.2.2.2.2.2.2.2.1
    have s9 : vals 9 = .int .i64 (((P.lst (T &&& P.places p g.owner g.owner.length)).length : Nat) : Int) := hS.2.2.2.2.2.2.2.2.2.1
    have s10 : vals 10 = .int .i64 0 := hS.2.2.2.2.2.2.2.2.2.2.1
    clear hS
    have hb := below_of_grown (Rk.grown_of hgk)
    have HW24 := Lib.hid hb.size
    replace HS := Lib.hid (HS.out.on hb)
    replace BQi := Lib.hid (BQi.out.keep (grown_of_below hb none))
    replace BQt := Lib.hid (BQt.out.keep (grown_of_below hb none))
    replace W := Lib.hid (W.out.trans (hb.mono W.out.size))
    have HK4 : Hid (SlK qs pc w w4) := Lib.hid (SlK.of W.out)
    clear hb hgk
    obtain ⟨ln, hln⟩ : ∃ k, (P.lst (T &&& P.places p g.owner g.owner.length)).length = k := ⟨_, rfl⟩
    rw [hln] at s8 s9 hl8
    have HLL := Lib.hid hln
    have hl256 : ln ≤ 256 := by rw [← hln]; unfold P.lst; exact Nat.le_trans (List.length_filter_le _ _) (by simp)
    have HNI : Hid (qi ≠ qs ∧ qi ≠ pc) := Lib.hid (by have h1 := LEi.out; have h2 := HQ2.out; omega)
    refine hG ?_
    clear hG
    simp only [Nat.reduceAdd, Rg.putAll, Act.put, List.setIfInBounds_toArray, List.set_cons_succ, List.set_cons_zero, s8, s9, s10]
    clear s8 s9 s10
    by_cases hnil : P.lst (T &&& P.places p g.owner g.owner.length) = []
    · have hl0 : ln = 0 := by rw [← hln, hnil]; rfl
      clear hl8 hln hnil hl256
      rw [hl0] at HLL ⊢
      clear hl0
      go_wp2_with fail
      go_loopw [22] (fun iv wr => ∃ k : Nat, k ≤ 0 ∧ iv = .int .i64 (k : Int) ∧ Sl w0 wr qs pc n kq (.slice (some ⟨ba, oa, none⟩) n ka) (.slice (some ⟨bb, ob, none⟩) n kb) (.slice (some ⟨bc_, oc, none⟩) n kc) (P.styK g I (T &&& P.places p g.owner g.owner.length) c k) d ∧ SlK qs pc w4 wr) (fun iv _ => 0 - (intOf iv).toNat)
      case atStart => exact ⟨0, Nat.zero_le _, rfl, by rw [P.styK_zero]; exact HS.out, SlK.refl _ _ _⟩
      case round =>
        obtain ⟨k, hk, rfl, hs, hkx⟩ := hrel
        replace HS := Lib.hid hs
        have HK := Lib.hid hkx
        have hk0 : (0 : Int) ≤ (k : Int) := Int.natCast_nonneg _
        clear hs hkx
        have fk : decide ((k : Int) < 0) = false := decide_eq_false (by omega)
        have HST := Lib.hid (show P.styK g I (T &&& P.places p g.owner g.owner.length) c k = P.sty g p I T c from P.styK_all (HCL.out.trans HN.out.symm) (by have := HR.out.many; omega) (by have := HLL.out; omega))
        have HKW := Lib.hid (HK4.out.trans HK.out)
        go_wp2_with fail
        exact bodyPost_end (v := .tuple #[]) (by simp [results, Tryd.results25, go_sem]) rfl ⟨rfl, by rw [← HST.out]; exact HS.out, HKW.out⟩
    · obtain ⟨bl, rfl, hlo, hbl, hcl⟩ := hl8.resolve_left hnil
      have HLC := Lib.hid hcl
      have HBL : Hid (bl < w4.heap.size ∧ bl ∉ [qs, pc]) := Lib.hid ⟨hbl, by have h1 := HQ2.out; have h2 := HW2.out; simp; omega⟩
      clear hl8 hln hnil hlo hbl hcl
      go_wp2_with fail
      go_loopw [22] (fun iv wr => ∃ k : Nat, k ≤ ln ∧ iv = .int .i64 (k : Int) ∧ Sl w0 wr qs pc n kq (.slice (some ⟨ba, oa, none⟩) n ka) (.slice (some ⟨bb, ob, none⟩) n kb) (.slice (some ⟨bc_, oc, none⟩) n kc) (P.styK g I (T &&& P.places p g.owner g.owner.length) c k) d ∧ SlK qs pc w4 wr) (fun iv _ => ln - (intOf iv).toNat)
      case atStart => exact ⟨0, Nat.zero_le _, rfl, by rw [P.styK_zero]; exact HS.out, SlK.refl _ _ _⟩
      case round =>
        obtain ⟨k, hk, rfl, hs, hkx⟩ := hrel
        replace HS := Lib.hid hs
        have HK := Lib.hid hkx
        have hk0 : (0 : Int) ≤ (k : Int) := Int.natCast_nonneg _
        clear hs hkx
        by_cases hlt : k < ln
        · have fk : decide ((k : Int) < (ln : Int)) = true := decide_eq_true (by omega)
          have hki : (k : Int) < (ln : Int) := by omega
          have hc := kx_cell HK.out (HLC.out k hlt) HBL.out.1 HBL.out.1 HBL.out.2
          obtain ⟨x, hx⟩ : ∃ x, (P.lst (T &&& P.places p g.owner g.owner.length)).getD k 0 = x := ⟨_, rfl⟩
          rw [hx] at hc
          have hmem : x ∈ P.lst (T &&& P.places p g.owner g.owner.length) := by rw [← hx, List.getD_eq_getElem?_getD, List.getElem?_eq_getElem (by rw [HLL.out]; exact hlt)]; exact List.getElem_mem _
          have hxn : x < n := by
            have h1 := (P.mem_lst _ _).1 hmem
            rw [BitVec.getLsbD_and, Bool.and_eq_true] at h1
            exact HTN.out x h1.1
          have HX := Lib.hid hx
          have hx0 : (0 : Int) ≤ (x : Int) := Int.natCast_nonneg _
          have hxi : (x : Int) < (n : Int) := by omega
          clear hx hmem
          obtain ⟨rv, hcr, hri⟩ := HCC.out w0 (Below.refl _ _) x hxn
          have hne := (HR.out.at x (by rw [HN.out]; exact hxn)).2.2.2.1
          have HRI := Lib.hid hri
          obtain ⟨ro, mk, rfl, hml, hrc⟩ := hri
          obtain ⟨br, orr, rfl, hbr, hcy⟩ := hrc.resolve_left hne
          obtain ⟨ml, hmlq⟩ : ∃ z, (g.moves.getD x []).length = z := ⟨_, rfl⟩
          rw [hmlq] at hcr hcy HRI hml
          have hcm := (HS.out.low.cell (p := ⟨bc_, oc + x, none⟩) (cell_lt hcr)).trans hcr
          have HML := Lib.hid hmlq
          have HBRW := Lib.hid hbr
          have HCY := Lib.hid hcy
          have BQiK := Lib.hid (HK.out.box BQi.out HNI.out.1 HNI.out.2)
          clear hrc hcr hne hbr hcy hmlq
          have hbb := HS.out.box
          have sc0 : wr.cell? ⟨qs, 0, none⟩ = some (.slice (some ⟨ba, oa, none⟩) n ka) := hbb.cell 0 _ rfl
          have sc1 : wr.cell? ⟨qs, 1, none⟩ = some (.slice (some ⟨bb, ob, none⟩) n kb) := hbb.cell 1 _ rfl
          have sc2 : wr.cell? ⟨qs, 2, none⟩ = some (.slice (some ⟨bc_, oc, none⟩) n kc) := hbb.cell 2 _ rfl
          have sc3 : wr.cell? ⟨qs, 3, none⟩ = some (.slice (some ⟨pc, 0, none⟩) n kq) := hbb.cell 3 _ rfl
          have sc4 : wr.cell? ⟨qs, 4, none⟩ = some (.int .i64 d) := hbb.cell 4 _ rfl
          clear hbb
          have hbb := BQiK.out
          have ic0 : wr.cell? ⟨qi, 0, none⟩ = some (.int .u64 (P.wrd I 0)) := hbb.cell 0 _ rfl
          have ic1 : wr.cell? ⟨qi, 1, none⟩ = some (.int .u64 (P.wrd I 1)) := hbb.cell 1 _ rfl
          have ic2 : wr.cell? ⟨qi, 2, none⟩ = some (.int .u64 (P.wrd I 2)) := hbb.cell 2 _ rfl
          have ic3 : wr.cell? ⟨qi, 3, none⟩ = some (.int .u64 (P.wrd I 3)) := hbb.cell 3 _ rfl
          clear hbb
          go_wp2_with fail
          clear hc hcm sc0 sc1 sc2 sc3 sc4 ic0 ic1 ic2 ic3
          refine (indexf_any (g.moves.getD x []) I _ wr (HRI.out.on HS.out.low)).mono ?_
          rintro e w6 ⟨z, rfl, hz, hb⟩
          replace HS := Lib.hid (HS.out.on hb)
          replace HK := Lib.hid (HK.out.trans (SlK.of hb))
          clear hb
          rcases hz with ⟨rfl, hno⟩ | ⟨i, hil, rfl, hsome⟩
          · have HST := Lib.hid (show P.styK g I (T &&& P.places p g.owner g.owner.length) c (k + 1) = P.styK g I (T &&& P.places p g.owner g.owner.length) c k from P.styK_none (by rw [HLL.out]; exact hlt) (by rw [HX.out]; exact hno))
            clear hno
            go_wp2_with fail
            go_roundw
            case rel => exact ⟨k + 1, by omega, by first | rfl | go_num, by rw [HST.out]; exact HS.out, HK.out⟩
            case measure => simp [intOf]; omega
          · rw [HML.out] at hil
            have hi0 : (0 : Int) ≤ (i : Int) := Int.natCast_nonneg _
            have hii : (i : Int) < (ml : Int) := by omega
            have fi : decide ((0 : Int) ≤ (i : Int)) = true := decide_eq_true hi0
            obtain ⟨y, hy⟩ : ∃ y, (g.moves.getD x []).getD i 0 = y := ⟨_, rfl⟩
            rw [hy] at hsome
            have HYC := Lib.hid ((HCY.out i hil).trans (by rw [hy]))
            have HST := Lib.hid (show P.styK g I (T &&& P.places p g.owner g.owner.length) c (k + 1) = (P.styK g I (T &&& P.places p g.owner g.owner.length) c k).set x y from by rw [← HX.out]; exact P.styK_some (by rw [HLL.out]; exact hlt) (by rw [HX.out]; exact hsome) (by rw [HX.out, HCL.out]; exact hxn))
            clear hsome hy
            go_upto_region 7 with (fail)
            refine Rt.wp_region_tail 1 (fun idx => match idx with | 0 => (fun v _ _ => v = (.pointer (some ⟨qs, 0, none⟩))) | 1 => (fun v _ _ => v = (.pointer (some ⟨qs, 0, none⟩))) | 2 => (fun v _ _ => v = (.pointer (some ⟨qs, 3, none⟩))) | 3 => (fun v _ _ => v = (.slice (some ⟨pc, 0, none⟩) n kq)) | 4 => (fun v _ _ => v = (.int .i64 (x : Int))) | 5 => (fun v _ _ => v = (.slice (some ⟨br, orr, none⟩) ml mk)) | 6 => (fun v _ _ => v = (.int .i64 (i : Int))) | 7 => (fun v _ _ => v = (.pointer (some ⟨br, orr + i, none⟩))) | 8 => (fun v _ _ => v = (.int .i64 y)) | 9 => (fun v _ _ => v = (.pointer (some ⟨pc, x, none⟩))) | _ => fun _ _ _ => True) (fun _ _ _ _ => True) (Rk.allK) 99 (by kernel_rfl) (by rfl) (by kernel_rfl) (by rfl) ?_ ?_ ?_ ?_
            · refine ⟨?_, ?_, ?_, ?_, ?_, ?_, ?_, ?_, ?_, ?_, trivial⟩
              · intro A w' K vals h hn hT hgk hK0
                have r0 : A.tmps[0]?.getD undef = .pointer (some ⟨qs, 0, none⟩) := Rg.slot h.1
                clear h hn hT hgk
                simp [Oper.wp, execOp, go_sem, r0]
                exact hK0 _ _ (Rk.Keeps.refl _ _) rfl trivial
              · intro A w' K vals h hn hT hgk hK0
                have r0 : A.tmps[40]?.getD undef = vals 0 := Rg.slot h.1
                have s0 : vals 0 = .pointer (some ⟨qs, 0, none⟩) := hn.1
                clear h hn hT hgk
                simp [Oper.wp, execOp, go_sem, r0, s0]
                exact hK0 _ _ (Rk.Keeps.refl _ _) rfl trivial
              · intro A w' K vals h hn hT hgk hK0
                have r0 : A.tmps[41]?.getD undef = vals 1 := Rg.slot h.1
                have s0 : vals 1 = .pointer (some ⟨qs, 0, none⟩) := hn.1
                clear h hn hT hgk
                simp [Oper.wp, execOp, go_sem, r0, s0]
                exact hK0 _ _ (Rk.Keeps.refl _ _) rfl trivial
              · intro A w' K vals h hn hT hgk hK0
                have r0 : A.tmps[42]?.getD undef = vals 2 := Rg.slot (h.1)
                have r1 : vals 2 = (.pointer (some ⟨qs, 3, none⟩)) := hn.1
                have c : w'.cell? ⟨qs, 3, none⟩ = some (.slice (some ⟨pc, 0, none⟩) n kq) := (HS.out.box.keep (Rk.grown_of hgk)).cell 3 _ rfl
                clear h hn hT hgk
                simp [Oper.wp, execOp, go_sem, r0, r1, c]
                exact hK0 _ _ (Rk.Keeps.refl _ _) rfl trivial
              · intro A w' K vals h hn hT hgk hK0
                have r0 : A.tmps[9]?.getD undef = .int .i64 (x : Int) := Rg.slot h.1
                clear h hn hT hgk
                simp [Oper.wp, execOp, go_sem, r0]
                exact hK0 _ _ (Rk.Keeps.refl _ _) rfl trivial
              · intro A w' K vals h hn hT hgk hK0
                have r0 : A.tmps[10]?.getD undef = .slice (some ⟨br, orr, none⟩) ml mk := Rg.slot h.1
                clear h hn hT hgk
                simp [Oper.wp, execOp, go_sem, r0]
                exact hK0 _ _ (Rk.Keeps.refl _ _) rfl trivial
              · intro A w' K vals h hn hT hgk hK0
                have r0 : A.tmps[11]?.getD undef = .int .i64 (i : Int) := Rg.slot h.1
                clear h hn hT hgk
                simp [Oper.wp, execOp, go_sem, r0]
                exact hK0 _ _ (Rk.Keeps.refl _ _) rfl trivial
              · intro A w' K vals h hn hT hgk hK0
                have r0 : A.tmps[45]?.getD undef = vals 5 := Rg.slot h.1
                have s0 : vals 5 = (.slice (some ⟨br, orr, none⟩) ml mk) := hn.1
                have r1 : A.tmps[46]?.getD undef = vals 6 := Rg.slot h.2.1
                have s1 : vals 6 = (.int .i64 (i : Int)) := hn.2.1
                clear h hn hT hgk
                simp [Oper.wp, execOp, go_sem, r0, r1, s0, s1, hii, hi0]
                exact hK0 _ _ (Rk.Keeps.refl _ _) rfl trivial
              · intro A w' K vals h hn hT hgk hK0
                have r0 : A.tmps[47]?.getD undef = vals 7 := Rg.slot (h.1)
                have r1 : vals 7 = (.pointer (some ⟨br, orr + i, none⟩)) := hn.1
                have c : w'.cell? ⟨br, orr + i, none⟩ = some (.int .i64 y) := ((HS.out.low.trans ((below_of_grown (Rk.grown_of hgk)).mono HS.out.low.size)).cell (p := ⟨br, orr + i, none⟩) HBRW.out).trans HYC.out
                clear h hn hT hgk
                simp [Oper.wp, execOp, go_sem, r0, r1, c]
                exact hK0 _ _ (Rk.Keeps.refl _ _) rfl trivial
              · intro A w' K vals h hn hT hgk hK0
                have r0 : A.tmps[43]?.getD undef = vals 3 := Rg.slot h.1
                have s0 : vals 3 = (.slice (some ⟨pc, 0, none⟩) n kq) := hn.1
                have r1 : A.tmps[44]?.getD undef = vals 4 := Rg.slot h.2.1
                have s1 : vals 4 = (.int .i64 (x : Int)) := hn.2.1
                clear h hn hT hgk
                simp [Oper.wp, execOp, go_sem, r0, r1, s0, s1, hxi, hx0]
                exact hK0 _ _ (Rk.Keeps.refl _ _) rfl trivial
            · refine ⟨?_, ?_, ?_, ?_, ?_, ?_, ?_, ?_, ?_, ?_, trivial⟩
              · exact fun _ _ _ _ _ _ h => h
              · exact fun _ _ _ _ _ _ h => h
              · exact fun _ _ _ _ _ _ h => h
              · exact fun _ _ _ _ _ _ h => h
              · exact fun _ _ _ _ _ _ h => h
              · exact fun _ _ _ _ _ _ h => h
              · exact fun _ _ _ _ _ _ h => h
              · exact fun _ _ _ _ _ _ h => h
              · exact fun _ _ _ _ _ _ h => h
              · exact fun _ _ _ _ _ _ h => h
            · exact fun _ _ _ _ _ _ h => h
            · intro vals w8 G hgk hS hG
              have s8 : vals 8 = (.int .i64 y) := hS.2.2.2.2.2.2.2.2.1
              have s9 : vals 9 = (.pointer (some ⟨pc, x, none⟩)) := hS.2.2.2.2.2.2.2.2.2.1
              clear hS
              have hb := below_of_grown (Rk.grown_of hgk)
              have HS8 := Lib.hid (HS.out.on hb)
              have HK8 := Lib.hid (HK.out.trans (SlK.of hb))
              clear hb hgk
              refine hG ?_
              clear hG
              simp only [List.take, List.drop, List.length, Nat.reduceSub, Nat.reduceAdd, Rg.putAll, Act.put, List.setIfInBounds_toArray, List.set_cons_succ, List.set_cons_zero, s8, s9]
              clear s8 s9
              obtain ⟨cc_, cf_⟩ := HS8.out.cellc hxn
              have HS9 := Lib.hid (HS8.out.set x y)
              have HK9 := Lib.hid (HK8.out.trans (SlK.set (.inr rfl) x (.int .i64 y)))
              go_wp2_with fail
              clear cc_ cf_
              go_roundw
              case rel => exact ⟨k + 1, by omega, by first | rfl | go_num, by rw [HST.out]; exact HS9.out, HK9.out⟩
              case measure => simp [intOf]; omega
        · have fk : decide ((k : Int) < (ln : Int)) = false := decide_eq_false (by omega)
          have HST := Lib.hid (show P.styK g I (T &&& P.places p g.owner g.owner.length) c k = P.sty g p I T c from P.styK_all (HCL.out.trans HN.out.symm) (by have := HR.out.many; omega) (by have := HLL.out; omega))
          have HKW := Lib.hid (HK4.out.trans HK.out)
          go_wp2_with fail
          exact bodyPost_end (v := .tuple #[]) (by simp [results, Tryd.results25, go_sem]) rfl ⟨rfl, by rw [← HST.out]; exact HS.out, HKW.out⟩
end W
end Go.Proofs.YtghdjkpndhcplaaDoor
end
section
namespace Go.Proofs.YtghdjkpndhcplaaDoor
open Go.RowKit
namespace W

end W
namespace P
theorem Ap.swap0 {g : G} {I X Y : BitVec 256} {c c' : List Int} (h : Ap g 0 I X Y c c') : Ap g 1 I Y X c c' := by
  have := h.swap
  rwa [show (1 : Int) - 0 = 1 by decide] at this
theorem Ap.swap1 {g : G} {I X Y : BitVec 256} {c c' : List Int} (h : Ap g 1 I X Y c c') : Ap g 0 I Y X c c' := by
  have := h.swap
  rwa [show (1 : Int) - 1 = 0 by decide] at this
/-- What is left without the attracted ones is a part again, with fewer positions. -/
theorem ap_next {g : G} (hr : g.Right) {p : Int} (hp : p = 0 ∨ p = 1) {I T : BitVec 256} (hI : ∀ i, Bit I i → i < g.owner.length) (hg : Goes g (Bit I)) {m : List Int} (hm : Played g (I &&& full g.owner.length) p T m) {i : Nat} (hi : Bit I i) (hT : Bit T i) :
    (∀ j, Bit (I &&& ~~~(attOf g I p T)) j → j < g.owner.length) ∧ Goes g (Bit (I &&& ~~~(attOf g I p T))) ∧ cntS g.owner.length (I &&& ~~~(attOf g I p T)) + 1 ≤ cntS g.owner.length I := by
  obtain ⟨-, ⟨rk, hA⟩, -, -⟩ := played_attr hr hp hI hg hm
  refine ⟨fun j hj => hI j ((bit_minus j).1 hj).1, fun j hj => ?_, cntS_less (hI i hi) hi (hA.base i hi hT)⟩
  obtain ⟨y, h1, h2⟩ := hA.goes hg j ((bit_minus j).1 hj)
  exact ⟨y, h1, (bit_minus y).2 h2⟩
theorem ap_part0 {g : G} (hr : g.Right) {I T : BitVec 256} (hI : ∀ i, Bit I i → i < g.owner.length) (hg : Goes g (Bit I)) {c m c' m2 c'' : List Int} {V L W2 V2 : BitVec 256} (hc : c.length = g.owner.length) (hm : Played g (I &&& full g.owner.length) 0 T m)
    (h : Ap g 0 (I &&& ~~~(attOf g I 0 T)) V L (frc c m) c') (hm2 : Played g (I &&& full g.owner.length) 1 L m2) (h2 : Ap g 0 (I &&& ~~~(attOf g I 1 L)) W2 V2 (frc c' m2) c'') : Ap g 0 I W2 (V2 ||| attOf g I 1 L) c c'' := by
  have e : (1 : Int) - 0 = 1 := by decide
  have k := ap_part hr (p := 0) (m2 := m2) (c'' := c'') (W2 := W2) (V2 := V2) (.inl rfl) hI hg hc hm h (by rw [e]; exact hm2) (by rw [e]; exact h2)
  rw [e] at k
  exact k
theorem ap_part1 {g : G} (hr : g.Right) {I T : BitVec 256} (hI : ∀ i, Bit I i → i < g.owner.length) (hg : Goes g (Bit I)) {c m c' m2 c'' : List Int} {V L W2 V2 : BitVec 256} (hc : c.length = g.owner.length) (hm : Played g (I &&& full g.owner.length) 1 T m)
    (h : Ap g 0 (I &&& ~~~(attOf g I 1 T)) L V (frc c m) c') (hm2 : Played g (I &&& full g.owner.length) 0 L m2) (h2 : Ap g 0 (I &&& ~~~(attOf g I 0 L)) V2 W2 (frc c' m2) c'') : Ap g 0 I (V2 ||| attOf g I 0 L) W2 c c'' := by
  have e : (1 : Int) - 1 = 0 := by decide
  have k := ap_part hr (p := 1) (m2 := m2) (c'' := c'') (W2 := W2) (V2 := V2) (.inr rfl) hI hg hc hm h.swap0 (by rw [e]; exact hm2) (by rw [e]; exact h2.swap0)
  rw [e] at k
  exact k.swap1
theorem bit_some {s : BitVec 256} (h : s ≠ 0#256) : ∃ i, Bit s i := Classical.byContradiction fun hc => h (bit_none fun i hi => hc ⟨i, hi⟩)
end P
namespace W
/-- Two sets, as a value's cells. -/
def pv (s t : BitVec 256) : Array Value := #[.int .u64 (P.wrd s 0), .int .u64 (P.wrd s 1), .int .u64 (P.wrd s 2), .int .u64 (P.wrd s 3), .int .u64 (P.wrd t 0), .int .u64 (P.wrd t 1), .int .u64 (P.wrd t 2), .int .u64 (P.wrd t 3)]
theorem kn_set (w : World) (q j : Nat) (u : Value) : Rk.Keeps (KN [q]) w (w.setCell ⟨q, j, none⟩ u) := ⟨rfl, rfl, rfl, by simp [World.setCell], fun k ob hob hk => by
  rw [Below.heap_setCell w ⟨q, j, none⟩ u k (fun e => hk (by simp [e]))]
  exact hob⟩
theorem kn_alloc (X : List Nat) (w : World) (ob : Obj) : Rk.Keeps (KN X) w (w.alloc ob) := Rk.keep_weak (Rk.keep_of (World.grownBy_alloc w ob none))
theorem box8 {w : World} {q : Nat} {t : TypeId} {a0 a1 a2 a3 a4 a5 a6 a7 : Value} (h : Box w q t #[a0, a1, a2, a3, a4, a5, a6, a7]) (b0 b1 b2 b3 b4 b5 b6 b7 : Value) : Box ((((((((w.setCell ⟨q, 0, none⟩ b0).setCell ⟨q, 1, none⟩ b1).setCell ⟨q, 2, none⟩ b2).setCell ⟨q, 3, none⟩ b3).setCell ⟨q, 4, none⟩ b4).setCell ⟨q, 5, none⟩ b5).setCell ⟨q, 6, none⟩ b6).setCell ⟨q, 7, none⟩ b7) q t #[b0, b1, b2, b3, b4, b5, b6, b7] := by
  have := ((((((((h.set 0 b0).set 1 b1).set 2 b2).set 3 b3).set 4 b4).set 5 b5).set 6 b6).set 7 b7)
  simpa only [List.setIfInBounds_toArray, List.set_cons_succ, List.set_cons_zero] using this
theorem box4lo {w : World} {q : Nat} {t : TypeId} {a0 a1 a2 a3 a4 a5 a6 a7 : Value} (h : Box w q t #[a0, a1, a2, a3, a4, a5, a6, a7]) (b0 b1 b2 b3 : Value) : Box ((((w.setCell ⟨q, 0, none⟩ b0).setCell ⟨q, 1, none⟩ b1).setCell ⟨q, 2, none⟩ b2).setCell ⟨q, 3, none⟩ b3) q t #[b0, b1, b2, b3, a4, a5, a6, a7] := by
  have := ((((h.set 0 b0).set 1 b1).set 2 b2).set 3 b3)
  simpa only [List.setIfInBounds_toArray, List.set_cons_succ, List.set_cons_zero] using this
theorem box4hi {w : World} {q : Nat} {t : TypeId} {a0 a1 a2 a3 a4 a5 a6 a7 : Value} (h : Box w q t #[a0, a1, a2, a3, a4, a5, a6, a7]) (b0 b1 b2 b3 : Value) : Box ((((w.setCell ⟨q, 4, none⟩ b0).setCell ⟨q, 5, none⟩ b1).setCell ⟨q, 6, none⟩ b2).setCell ⟨q, 7, none⟩ b3) q t #[a0, a1, a2, a3, b0, b1, b2, b3] := by
  have := ((((h.set 4 b0).set 5 b1).set 6 b2).set 7 b3)
  simpa only [List.setIfInBounds_toArray, List.set_cons_succ, List.set_cons_zero] using this
theorem box4 {w : World} {q : Nat} {t : TypeId} {a0 a1 a2 a3 : Value} (h : Box w q t #[a0, a1, a2, a3]) (b0 b1 b2 b3 : Value) : Box ((((w.setCell ⟨q, 0, none⟩ b0).setCell ⟨q, 1, none⟩ b1).setCell ⟨q, 2, none⟩ b2).setCell ⟨q, 3, none⟩ b3) q t #[b0, b1, b2, b3] := (((h.set 0 b0).set 1 b1).set 2 b2).set 3 b3
theorem box5 {w : World} {q : Nat} {t : TypeId} {a0 a1 a2 a3 a4 : Value} (h : Box w q t #[a0, a1, a2, a3, a4]) (b0 b1 b2 b3 b4 : Value) : Box (((((w.setCell ⟨q, 0, none⟩ b0).setCell ⟨q, 1, none⟩ b1).setCell ⟨q, 2, none⟩ b2).setCell ⟨q, 3, none⟩ b3).setCell ⟨q, 4, none⟩ b4) q t #[b0, b1, b2, b3, b4] := by
  have := (((((h.set 0 b0).set 1 b1).set 2 b2).set 3 b3).set 4 b4)
  simpa only [List.setIfInBounds_toArray, List.set_cons_succ, List.set_cons_zero] using this
section
variable {w0 w w' : World} {qs pc n kq q : Nat} {va vb vc : Value} {c : List Int} {d : Int}
theorem kn_below {B : Nat} (h : Rk.Keeps (KN [q]) w w') (hB : B ≤ q) (hBw : B ≤ w.heap.size) : Below B w w' := ⟨h.os, h.tape, h.output, h.size, fun k hk => by
  have hlt : k < w.heap.size := by omega
  rw [h.block k _ (Array.getElem?_eq_getElem hlt) (by intro e; have := List.mem_singleton.1 e; omega)]
  exact (Array.getElem?_eq_getElem hlt).symm⟩
theorem kn_own {lo : Nat} {e : TypeId} {v : Value} {m : Nat} {xs : List Value} (ho : w.ownsRow lo e 1 v m xs) (h : Rk.Keeps (KN [q]) w w') (hv : v.ownBlock ≠ some q) : w'.ownsRow lo e 1 v m xs := by
  refine ⟨ho.1, ?_⟩
  rcases ho.2 with h1 | ⟨g, cap, cur, h1, h2, h3, h4⟩
  · exact .inl h1
  · exact .inr ⟨g, cap, cur, h1, h2, h.block g _ h3 (fun e => hv (by rw [h1, ← List.mem_singleton.1 e]; rfl)), h4⟩
theorem Sl.kn (h : Sl w0 w qs pc n kq va vb vc c d) (k : Rk.Keeps (KN [q]) w w') (h1 : qs ≠ q) (h2 : pc ≠ q) (h3 : w0.heap.size ≤ q) : Sl w0 w' qs pc n kq va vb vc c d :=
  ⟨kn_box k h.box (by simp [h1]), kn_own h.row k (fun e => by injection e with e; exact h2 e), h.low.trans (kn_below k h3 h.low.size), h.lo⟩
theorem SlK.one {w1 : World} (h : SlK qs pc w1 w) (k : Rk.Keeps (KN [q]) w w') (hq : w1.heap.size ≤ q) : SlK qs pc w1 w' := Rk.Keeps.trans h ⟨k.os, k.tape, k.output, k.size, fun b ob hob hb => k.block b ob hob (fun e => by have := List.mem_singleton.1 e; have := hb.1; omega)⟩
/-- A solver whose struct and row may have turned, as it is said to be, at a later world. -/
theorem Sl.ne_q (h : Sl w0 w qs pc n kq va vb vc c d) (hq : w.heap.size ≤ q) : q ≠ qs ∧ q ≠ pc := by
  have h1 := h.box.lt
  have h2 := h.plo.2
  omega
end
end W
end Go.Proofs.YtghdjkpndhcplaaDoor
end
