/- The document's play that goes round from a stand: the walk. -/
import Derived.Test.YtghdjkpndhcplaaStdS
import Derived.Test.YtghdjkpndhcplaaTellP
import Derived.Test.YtghdjkpndhcplaaCopy
import Derived.Test.YtghdjkpndhcplaaSameGame
import Derived.Deep.Cut
import Derived.Lib.Hide
import Derived.Deep.QuietTactic
import Derived.BigQuiet
import Derived.StillTailTactics
namespace Go.Proofs.Ytghdjkpndhcplaa
open Go.RowKit
namespace W

/-- The play that is told, so far. -/
structure Td (w wr : World) (q3 q6 q7 : Nat) (a b c v1 v2 : Value) (A B : List Int) : Prop where
  below : Below w.heap.size w wr
  bg : Box wr q3 25 #[a, b, c]
  br : Box wr q6 29 #[.slice none 0 0, .slice none 0 0, .int .i64 0]
  bp : Box wr q7 29 #[v1, v2, .int .i64 0]
  lo : w.heap.size ≤ q7
  dif : q6 ≠ q7
  o1 : OwnI wr w.heap.size v1 A
  o2 : OwnI wr w.heap.size v2 B
  ne : v1.ownBlock = none ∨ v1.ownBlock ≠ v2.ownBlock
section
variable {w wr w8 : World} {q3 q6 q7 : Nat} {a b c v1 v2 V : Value} {A B : List Int} {z : Int}
theorem box_off {w : World} {lo q : Nat} {t : TypeId} {cs : Array Value} {v : Value} {zs : List Int} (hb : Box w q t cs) (ho : OwnI w lo v zs) (ht : 3 ≠ t) : some q ≠ v.ownBlock := fun e => own_box ho hb ht e.symm
theorem Td.on (h : Td w wr q3 q6 q7 a b c v1 v2 A B) (hg : wr.grownBy w8 none) : Td w w8 q3 q6 q7 a b c v1 v2 A B :=
  ⟨h.below.trans ((below_of_grown hg).mono h.below.size), h.bg.keep hg, h.br.keep hg, h.bp.keep hg, h.lo, h.dif, own_grown h.o1 hg, own_grown h.o2 hg, h.ne⟩
theorem Td.one (h : Td w wr q3 q6 q7 a b c v1 v2 A B) (ha : w8.ownsRow w.heap.size 3 1 V (A.length + 1) (A.map (Value.int .i64) ++ [.int .i64 z])) (hg : wr.grownBy w8 v1.ownBlock) (hat : V.ownBlock = v1.ownBlock ∨ ∃ p, V.ownBlock = some p ∧ wr.heap.size ≤ p) :
    Td w (w8.setCell ⟨q7, 0, none⟩ V) q3 q6 q7 a b c V v2 (A ++ [z]) B := by
  have b3 := h.bg.grown hg (box_off h.bg h.o1 (by decide))
  have b6 := h.br.grown hg (box_off h.br h.o1 (by decide))
  have b7 := h.bp.grown hg (box_off h.bp h.o1 (by decide))
  have h37 : q3 ≠ q7 := fun e => by
    have h1 : w8.heap[q3]? = _ := b3
    rw [e, show w8.heap[q7]? = _ from b7] at h1
    simp at h1
  have o2 : OwnI w8 w.heap.size v2 B := own_kept h.o2 hg (by
    rcases h.ne with h1 | h1
    · cases e : v2.ownBlock with
      | none => exact .inl rfl
      | some k => exact .inr (by rw [h1]; simp)
    · exact .inr (Ne.symm h1))
  refine ⟨(h.below.grown hg h.below.size (fun p hp => (own_lt h.o1 p hp).1)).setCell (p := ⟨q7, 0, none⟩) h.lo V, b3.far h37 V, b6.far h.dif V, by simpa using b7.set 0 V, h.lo, h.dif, ?_, own_set o2 b7 (by decide) 0 V, ?_⟩
  · have h1 : OwnI w8 w.heap.size V (A ++ [z]) := by unfold OwnI; simpa using ha
    exact own_set h1 b7 (by decide) 0 V
  · rcases hat with e | ⟨p, e, hp⟩
    · rw [e]; exact h.ne
    · refine .inr fun e2 => ?_
      have := (own_lt h.o2 p (by rw [← e2, e])).2
      omega
theorem Td.two (h : Td w wr q3 q6 q7 a b c v1 v2 A B) (ha : w8.ownsRow w.heap.size 3 1 V (B.length + 1) (B.map (Value.int .i64) ++ [.int .i64 z])) (hg : wr.grownBy w8 v2.ownBlock) (hat : V.ownBlock = v2.ownBlock ∨ ∃ p, V.ownBlock = some p ∧ wr.heap.size ≤ p) :
    Td w (w8.setCell ⟨q7, 1, none⟩ V) q3 q6 q7 a b c v1 V A (B ++ [z]) := by
  have b3 := h.bg.grown hg (box_off h.bg h.o2 (by decide))
  have b6 := h.br.grown hg (box_off h.br h.o2 (by decide))
  have b7 := h.bp.grown hg (box_off h.bp h.o2 (by decide))
  have h37 : q3 ≠ q7 := fun e => by
    have h1 : w8.heap[q3]? = _ := b3
    rw [e, show w8.heap[q7]? = _ from b7] at h1
    simp at h1
  have o1 : OwnI w8 w.heap.size v1 A := own_kept h.o1 hg h.ne
  refine ⟨(h.below.grown hg h.below.size (fun p hp => (own_lt h.o2 p hp).1)).setCell (p := ⟨q7, 1, none⟩) h.lo V, b3.far h37 V, b6.far h.dif V, by simpa using b7.set 1 V, h.lo, h.dif, own_set o1 b7 (by decide) 1 V, ?_, ?_⟩
  · have h1 : OwnI w8 w.heap.size V (B ++ [z]) := by unfold OwnI; simpa using ha
    exact own_set h1 b7 (by decide) 1 V
  · rcases hat with e | ⟨p, e, hp⟩
    · rw [e]; exact h.ne
    · cases e1 : v1.ownBlock with
      | none => exact .inl rfl
      | some k =>
        refine .inr fun e2 => ?_
        have := (own_lt h.o1 k e1).2
        rw [e] at e2
        injection e2 with e2
        omega
theorem Td.apart (h : Td w wr q3 q6 q7 a b c v1 v2 A B) : Apart [v1, v2] := by
  have key : ∀ g, hold v1 = some g → hold v2 ≠ some g := fun g h1 h2 => by
    rcases h.ne with e | e
    · rw [hold_own h1] at e; cases e
    · exact e (by rw [hold_own h1, hold_own h2])
  exact Apart.snoc (Apart.snoc Apart.nil v1 (fun i u hu => by simp at hu)) v2 (fun i u hu g h1 h2 => by
    match i, hu with
    | 0, hu => simp at hu; subst hu; exact key g h2 h1)
end

theorem topS_snoc (g : P.G) (x : Nat × Nat) : ∀ (l : List (Nat × Nat)) (z : Int), P.topS g z (l ++ [x]) = (if P.topS g z l < g.prio.getD x.1 0 then g.prio.getD x.1 0 else P.topS g z l)
  | [], _ => rfl
  | _ :: l, _ => topS_snoc g x l _
theorem topS_bounds {g : P.G} (hr : g.Right) : ∀ (l : List (Nat × Nat)) (z : Int), (∀ x ∈ l, x.1 < g.owner.length) → 0 ≤ z → z ≤ 7 → 0 ≤ P.topS g z l ∧ P.topS g z l ≤ 7
  | [], _, _, h0, h7 => ⟨h0, h7⟩
  | x :: l, z, hl, h0, h7 => by
    have hx := hl x (List.mem_cons_self ..)
    have h1 := (hr.at x.1 hx).2
    refine topS_bounds hr l _ (fun y hy => hl y (List.mem_cons_of_mem _ hy)) ?_ ?_ <;> split <;> omega
theorem take_one {l : List (Nat × Nat)} {k : Nat} (hk : k < l.length) : l.take (k + 1) = l.take k ++ [l.getD k (0, 0)] := by
  rw [List.take_add_one, List.getD_eq_getElem?_getD, List.getElem?_eq_getElem hk]
  rfl
/-- One stand more: it goes ahead, or into the round. -/
theorem told_ahead {l : List (Nat × Nat)} {k i : Nat} (hk : k < l.length) (hi : k < i) : (l.take (k + 1)).take i = (l.take k).take i ++ [l.getD k (0, 0)] ∧ (l.take (k + 1)).drop i = (l.take k).drop i := by
  have h1 : (l.take k).length = k := by rw [List.length_take]; omega
  rw [take_one hk]
  constructor
  · rw [List.take_of_length_le (l := l.take k ++ _) (by rw [List.length_append, h1]; show k + 1 ≤ i; omega), List.take_of_length_le (l := l.take k) (by omega)]
  · rw [List.drop_of_length_le (by rw [List.length_append, h1]; show k + 1 ≤ i; omega), List.drop_of_length_le (by omega)]
theorem told_round {l : List (Nat × Nat)} {k i : Nat} (hk : k < l.length) (hi : i ≤ k) : (l.take (k + 1)).take i = (l.take k).take i ∧ (l.take (k + 1)).drop i = (l.take k).drop i ++ [l.getD k (0, 0)] := by
  have h1 : (l.take k).length = k := by rw [List.length_take]; omega
  rw [take_one hk]
  exact ⟨List.take_append_of_le_length (by omega), List.drop_append_of_le_length (by omega)⟩
set_option maxRecDepth 100000 in
set_option maxHeartbeats 4000000 in
theorem told_any (g : P.G) (hr : g.Right) (n : Nat) (hn : g.owner.length = n) (v sv : Value) (l : List (Nat × Nat)) (m i : Nat) (w : World) (hv : GameV w v g) (hs : StV w sv l) (hm : l.length = m) (hi : i < m) (hm2 : m ≤ 12800) (hl : ∀ a ∈ l, a.1 < n) :
    Calls Try.prog 15 #[v, sv, .int .i64 (i : Int)] w fun e w' => ∃ v1 v2, e = .returned (.agg #[v1, v2, .int .i64 (P.topS g 0 (l.drop i) % 2)]) ∧ OwnI w' w.heap.size v1 ((l.take i).map fun a => (a.1 : Int)) ∧ OwnI w' w.heap.size v2 ((l.drop i).map fun a => (a.1 : Int)) ∧ Apart [v1, v2] ∧ Below w.heap.size w w' := by
  have hop := hr.prio
  have hmp := hr.moves
  have h0 := hr.pos
  rw [hn] at hop hmp h0
  obtain ⟨ba, oa, ka, bb, ob, kb, bc, oc, kc, rfl, -, hcb, -⟩ := hv.open_ hn hop hmp h0
  obtain ⟨bz, oz, cz, rfl, hbz, hcz⟩ := hs.open_ hm (by omega)
  have HR := Lib.hid hr
  have HN := Lib.hid hn
  have HCB := Lib.hid hcb
  have HCS := Lib.hid hcz
  have HBZ := Lib.hid hbz
  have HM := Lib.hid hm
  have HL := Lib.hid hl
  have hi0 : (0 : Int) ≤ (i : Int) := Int.natCast_nonneg _
  clear hr hn hop hmp hv hs hcb hcz hbz hm hl
  go_enter Try.func15, Try.ntmps15
  go_wp2_with fail
  have bx0 : Box (((w.alloc (.cells #[.slice (some ⟨ba, oa, none⟩) n ka, .slice (some ⟨bb, ob, none⟩) n kb, .slice (some ⟨bc, oc, none⟩) n kc] 25)).alloc (.cells #[.slice none 0 0, .slice none 0 0, .int .i64 0] 29)).alloc (.cells #[.slice none 0 0, .slice none 0 0, .int .i64 0] 29)) (w.heap.size) 25 #[.slice (some ⟨ba, oa, none⟩) n ka, .slice (some ⟨bb, ob, none⟩) n kb, .slice (some ⟨bc, oc, none⟩) n kc] := Box.alloc (Box.alloc (Box.new w 25 #[.slice (some ⟨ba, oa, none⟩) n ka, .slice (some ⟨bb, ob, none⟩) n kb, .slice (some ⟨bc, oc, none⟩) n kc]) (.cells #[.slice none 0 0, .slice none 0 0, .int .i64 0] 29)) (.cells #[.slice none 0 0, .slice none 0 0, .int .i64 0] 29)
  have bx1 : Box (((w.alloc (.cells #[.slice (some ⟨ba, oa, none⟩) n ka, .slice (some ⟨bb, ob, none⟩) n kb, .slice (some ⟨bc, oc, none⟩) n kc] 25)).alloc (.cells #[.slice none 0 0, .slice none 0 0, .int .i64 0] 29)).alloc (.cells #[.slice none 0 0, .slice none 0 0, .int .i64 0] 29)) (w.heap.size + 1) 29 #[.slice none 0 0, .slice none 0 0, .int .i64 0] := by
    have := Box.alloc (Box.new (w.alloc (.cells #[.slice (some ⟨ba, oa, none⟩) n ka, .slice (some ⟨bb, ob, none⟩) n kb, .slice (some ⟨bc, oc, none⟩) n kc] 25)) 29 #[.slice none 0 0, .slice none 0 0, .int .i64 0]) (.cells #[.slice none 0 0, .slice none 0 0, .int .i64 0] 29)
    simpa using this
  have bx2 : Box (((w.alloc (.cells #[.slice (some ⟨ba, oa, none⟩) n ka, .slice (some ⟨bb, ob, none⟩) n kb, .slice (some ⟨bc, oc, none⟩) n kc] 25)).alloc (.cells #[.slice none 0 0, .slice none 0 0, .int .i64 0] 29)).alloc (.cells #[.slice none 0 0, .slice none 0 0, .int .i64 0] 29)) (w.heap.size + 1 + 1) 29 #[.slice none 0 0, .slice none 0 0, .int .i64 0] := by
    have := Box.new ((w.alloc (.cells #[.slice (some ⟨ba, oa, none⟩) n ka, .slice (some ⟨bb, ob, none⟩) n kb, .slice (some ⟨bc, oc, none⟩) n kc] 25)).alloc (.cells #[.slice none 0 0, .slice none 0 0, .int .i64 0] 29)) 29 #[.slice none 0 0, .slice none 0 0, .int .i64 0]
    simpa using this
  have hbq : Below w.heap.size w (((w.alloc (.cells #[.slice (some ⟨ba, oa, none⟩) n ka, .slice (some ⟨bb, ob, none⟩) n kb, .slice (some ⟨bc, oc, none⟩) n kc] 25)).alloc (.cells #[.slice none 0 0, .slice none 0 0, .int .i64 0] 29)).alloc (.cells #[.slice none 0 0, .slice none 0 0, .int .i64 0] 29)) := (((Below.refl _ w).alloc (Nat.le_refl _) _).alloc (by simp) _).alloc (by simp; omega) _
  have lt0 : w.heap.size < w.heap.size + 1 := Nat.lt_succ_self _
  have lt1 : w.heap.size + 1 < w.heap.size + 1 + 1 := Nat.lt_succ_self _
  have hle0 : w.heap.size ≤ w.heap.size := Nat.le_refl _
  generalize (((w.alloc (.cells #[.slice (some ⟨ba, oa, none⟩) n ka, .slice (some ⟨bb, ob, none⟩) n kb, .slice (some ⟨bc, oc, none⟩) n kc] 25)).alloc (.cells #[.slice none 0 0, .slice none 0 0, .int .i64 0] 29)).alloc (.cells #[.slice none 0 0, .slice none 0 0, .int .i64 0] 29)) = w1 at bx0 bx1 bx2 hbq  ⊢
  have BQ3 := Lib.hid bx0
  have BQ6 := Lib.hid bx1
  have BQ7 := Lib.hid bx2
  have W := Lib.hid hbq
  have LT36 := Lib.hid lt0
  have LT67 := Lib.hid lt1
  have LE3 := Lib.hid hle0
  clear hbq hle0 bx0 bx1 bx2 lt0 lt1
  generalize w.heap.size + 1 + 1 = q7 at BQ7 LT67 ⊢
  generalize w.heap.size + 1 = q6 at BQ6 LT67 LT36 ⊢
  obtain ⟨q3, hq3⟩ : ∃ q3, w.heap.size = q3 := ⟨_, rfl⟩
  rw [hq3] at BQ3 LT36 ⊢
  have LE3 : Hid (w.heap.size ≤ q3) := Lib.hid (by omega)
  clear hq3
  have HQ6 : Hid (w.heap.size ≤ q6) := Lib.hid (Nat.le_trans LE3.out (Nat.le_of_lt LT36.out))
  have HTD0 := Lib.hid (show Td w w1 q3 q6 q7 (.slice (some ⟨ba, oa, none⟩) n ka) (.slice (some ⟨bb, ob, none⟩) n kb) (.slice (some ⟨bc, oc, none⟩) n kc) (.slice none 0 0) (.slice none 0 0) [] [] from
    ⟨W.out, BQ3.out, BQ6.out, BQ7.out, Nat.le_trans HQ6.out (Nat.le_of_lt LT67.out), Nat.ne_of_lt LT67.out, OwnI.nil _ _, OwnI.nil _ _, .inl rfl⟩)
  clear W BQ3 BQ6 BQ7 LE3 LT36 LT67
  go_loopw [8, 9] (fun tv iv wr => ∃ (k : Nat) (v1 v2 : Value), iv = .int .i64 (k : Int) ∧ k ≤ m ∧ tv = .int .i64 (P.topS g 0 ((l.take k).drop i)) ∧ Td w wr q3 q6 q7 (.slice (some ⟨ba, oa, none⟩) n ka) (.slice (some ⟨bb, ob, none⟩) n kb) (.slice (some ⟨bc, oc, none⟩) n kc) v1 v2 (((l.take k).take i).map fun a => (a.1 : Int)) (((l.take k).drop i).map fun a => (a.1 : Int))) (fun _ iv _ => m - (intOf iv).toNat)
  case atStart => exact ⟨0, _, _, rfl, Nat.zero_le _, by simp [P.topS], by simpa using HTD0.out⟩
  case round =>
    obtain ⟨k, v1, v2, rfl, hk, rfl, htd⟩ := hrel
    have HTD := Lib.hid htd
    have hk0 : (0 : Int) ≤ (k : Int) := Int.natCast_nonneg _
    obtain ⟨tp, htp⟩ : ∃ t, P.topS g 0 ((l.take k).drop i) = t := ⟨_, rfl⟩
    have htb := topS_bounds HR.out ((l.take k).drop i) 0 (fun x hx => by rw [HN.out]; exact HL.out x (List.mem_of_mem_take (List.mem_of_mem_drop hx))) (by omega) (by omega)
    rw [htp] at htb ⊢
    have HTP := Lib.hid htp
    clear htd htp
    by_cases hkm : k < m
    · have fk : decide ((k : Int) < (m : Int)) = true := decide_eq_true (by omega)
      have hki : (k : Int) < (m : Int) := by omega
      have hzk := HCS.out k hkm
      have hkl : k < l.length := by rw [HM.out]; exact hkm
      obtain ⟨a, ha⟩ : ∃ a, l.getD k (0, 0) = a := ⟨_, rfl⟩
      have hal : a.1 < n := HL.out a (by
        rw [← ha, List.getD_eq_getElem?_getD, List.getElem?_eq_getElem hkl]
        exact List.getElem_mem hkl)
      rw [ha] at hzk
      obtain ⟨z, hz⟩ : ∃ z, a.1 = z := ⟨_, rfl⟩
      rw [hz] at hzk hal
      have HCZ := Lib.hid (show wr.cell? ⟨bz, oz + k * 2, none⟩ = some (.int .i64 (z : Int)) by
        rw [HTD.out.below.cell (p := ⟨bz, oz + k * 2, none⟩) HBZ.out]
        exact hzk.1)
      clear hzk
      by_cases hik : k < i
      · have fi : decide ((k : Int) < (i : Int)) = true := decide_eq_true (by omega)
        have hta := told_ahead hkl hik
        rw [ha] at hta
        obtain ⟨A, hA⟩ : ∃ A, ((l.take k).take i).map (fun a => (a.1 : Int)) = A := ⟨_, rfl⟩
        obtain ⟨B, hB⟩ : ∃ B, ((l.take k).drop i).map (fun a => (a.1 : Int)) = B := ⟨_, rfl⟩
        rw [hA, hB] at HTD
        have HA2 := Lib.hid (show ((l.take (k + 1)).take i).map (fun a => (a.1 : Int)) = A ++ [(z : Int)] by rw [hta.1, List.map_append, hA]; simp [hz])
        have HB2 := Lib.hid (show ((l.take (k + 1)).drop i).map (fun a => (a.1 : Int)) = B by rw [hta.2, hB])
        have HT2 := Lib.hid (show P.topS g 0 ((l.take (k + 1)).drop i) = tp by rw [hta.2, HTP.out])
        have HLEN := Lib.hid (show A.length ≤ 12800 by rw [← hA, List.length_map, List.length_take, List.length_take]; omega)
        obtain ⟨x1, y1, e1, -⟩ := own_at HTD.out.o1
        obtain ⟨n1, hn1⟩ : ∃ n, A.length = n := ⟨_, rfl⟩
        rw [hn1] at e1
        subst e1
        have HN1 := Lib.hid hn1
        clear hta hA hB hn1 ha hz
        go_upto_region 7 with (fail)
        refine Rg.wp_region_lit (fun idx => match idx with | 0 => (fun v _ _ => v = (.pointer (some ⟨q7, 0, none⟩))) | 1 => (fun v _ _ => v = (.slice x1 n1 y1)) | 2 => (fun v _ _ => v = (.slice (some ⟨bz, oz, none⟩) m cz)) | 3 => (fun v _ _ => v = (.int .i64 (k : Int))) | 4 => (fun v _ _ => v = (.pointer (some ⟨bz, oz + k * 2, none⟩))) | 5 => (fun v _ _ => v = (.pointer (some ⟨bz, oz + k * 2, none⟩))) | 6 => (fun v _ _ => v = (.int .i64 (z : Int))) | 7 => (fun v _ w' => ∃ p, v = .slice (some ⟨p, 0, none⟩) 1 1 ∧ wr.heap.size ≤ p ∧ p < w'.heap.size ∧ w'.cell? ⟨p, 0, none⟩ = some (.int .i64 (z : Int))) | 8 => (fun v _ w' => w'.ownsRow w.heap.size 3 1 v (A.length + 1) (A.map (Value.int .i64) ++ [.int .i64 (z : Int)]) ∧ (v.ownBlock = ((.slice x1 n1 y1) : Value).ownBlock ∨ ∃ p, v.ownBlock = some p ∧ wr.heap.size ≤ p)) | 9 => (fun v _ _ => v = (.pointer (some ⟨q7, 0, none⟩))) | _ => fun _ _ _ => True) (((.slice x1 n1 y1) : Value).ownBlock) 8 (by kernel_rfl) (by rfl) (by kernel_rfl) (by rfl) ?_ ?_ ?_
        · refine ⟨?_, ?_, ?_, ?_, ?_, ?_, ?_, ?_, ?_, ?_, trivial⟩
          · intro A' w' K vals h hn hg hK
            have r0 : A'.tmps[7]?.getD undef = .pointer (some ⟨q7, 0, none⟩) := Rg.slot (h.1)
            clear h hn hg
            simp [Oper.wp, execOp, go_sem, r0]
            exact hK _ _ (Rg.grown_refl _ _) rfl
          · intro A' w' K vals h hn hg hK
            have r0 : A'.tmps[20]?.getD undef = vals 0 := Rg.slot h.1
            have r1 : vals 0 = (.pointer (some ⟨q7, 0, none⟩)) := hn.1
            have c : w'.cell? ⟨q7, 0, none⟩ = some (.slice x1 n1 y1) := (HTD.out.bp.grown hg (box_off HTD.out.bp HTD.out.o1 (by decide))).cell _ _ rfl
            clear h hn
            simp [Oper.wp, execOp, go_sem, r0, r1, c]
            exact hK _ _ (Rg.grown_refl _ _) rfl
          · intro A' w' K vals h hn hg hK
            have r0 : A'.tmps[1]?.getD undef = .slice (some ⟨bz, oz, none⟩) m cz := Rg.slot (h.1)
            clear h hn hg
            simp [Oper.wp, execOp, go_sem, r0]
            exact hK _ _ (Rg.grown_refl _ _) rfl
          · intro A' w' K vals h hn hg hK
            have r0 : A'.tmps[9]?.getD undef = .int .i64 (k : Int) := Rg.slot (h.1)
            clear h hn hg
            simp [Oper.wp, execOp, go_sem, r0]
            exact hK _ _ (Rg.grown_refl _ _) rfl
          · intro A' w' K vals h hn hg hK
            have r0 : A'.tmps[22]?.getD undef = vals 2 := Rg.slot h.1
            have r1 : A'.tmps[23]?.getD undef = vals 3 := Rg.slot h.2.1
            have r2 : vals 2 = (.slice (some ⟨bz, oz, none⟩) m cz) := hn.1
            have r3 : vals 3 = (.int .i64 (k : Int)) := hn.2.1
            clear h hn hg
            simp [Oper.wp, execOp, go_sem, r0, r1, r2, r3, hki, hk0]
            exact hK _ _ (Rg.grown_refl _ _) rfl
          · intro A' w' K vals h hn hg hK
            have r0 : A'.tmps[24]?.getD undef = vals 4 := Rg.slot h.1
            have r2 : vals 4 = (.pointer (some ⟨bz, oz + k * 2, none⟩)) := hn.1
            clear h hn hg
            simp [Oper.wp, execOp, go_sem, r0, r2]
            exact hK _ _ (Rg.grown_refl _ _) rfl
          · intro A' w' K vals h hn hg hK
            have r0 : A'.tmps[25]?.getD undef = vals 5 := Rg.slot h.1
            have r1 : vals 5 = (.pointer (some ⟨bz, oz + k * 2, none⟩)) := hn.1
            have c : w'.cell? ⟨bz, oz + k * 2, none⟩ = some (.int .i64 (z : Int)) := hg.cell HCZ.out (fun e => by have h1 : w.heap.size ≤ bz := (own_lt HTD.out.o1 _ e.symm).1; have h2 := HBZ.out; omega)
            clear h hn
            simp [Oper.wp, execOp, go_sem, r0, r1, c]
            exact hK _ _ (Rg.grown_refl _ _) rfl
          · intro A' w' K vals h hn hg hK
            have r0 : A'.tmps[26]?.getD undef = vals 6 := Rg.slot h.1
            have s0 : vals 6 = (.int .i64 (z : Int)) := hn.1
            clear h hn
            simp [Oper.wp, execOp, go_sem, r0, s0]
            exact hK _ _ (Rg.grown_weak (World.grownBy_alloc _ _ _)) ⟨w'.heap.size, rfl, hg.size, by simp, by simp⟩
          · intro A' w' K vals h hn hg hK
            have r0 : A'.tmps[21]?.getD undef = vals 1 := Rg.slot h.1
            have r1 : A'.tmps[27]?.getD undef = vals 7 := Rg.slot h.2.1
            have r2 : vals 1 = (.slice x1 n1 y1) := hn.1
            obtain ⟨p, e9, hp, hlt9, c9⟩ : ∃ p, vals 7 = .slice (some ⟨p, 0, none⟩) 1 1 ∧ wr.heap.size ≤ p ∧ p < w'.heap.size ∧ w'.cell? ⟨p, 0, none⟩ = some (.int .i64 (z : Int)) := hn.2.1
            clear h hn
            have hg : wr.grownBy w' none := hg
            have own : w'.ownsRow w.heap.size 3 1 (.slice x1 n1 y1) A.length (A.map (Value.int .i64)) := own_grown HTD.out.o1 hg
            have hlen := HLEN.out
            have hrow9 : Row w' (.slice (some ⟨p, 0, none⟩) 1 1) [.int .i64 (z : Int)] := ⟨_, _, rfl, .inr ⟨p, 0, rfl, hlt9, fun j u hu => by
              match j, hu with
              | 0, hu => simp at hu; subst hu; exact c9⟩⟩
            obtain ⟨v', w'', hrun, hown, hgr, hat⟩ := run_append elInt 22 own hrow9 (by intro u hu; simp at hu; subst hu; rfl) (by simp; omega) (by simp; omega) (Nat.le_trans HTD.out.below.size hg.size)
            refine op_append rfl (by simp [Act.eval, r0, r2]) (by simp [Act.eval, r1, e9]) hrun (hK _ _ hgr ⟨hown, ?_⟩)
            rcases hat with hat | hat
            · exact .inl hat
            · exact .inr ⟨_, hat, hg.size⟩
          · intro A' w' K vals h hn hg hK
            have r0 : A'.tmps[7]?.getD undef = .pointer (some ⟨q7, 0, none⟩) := Rg.slot (h.1)
            clear h hn hg
            simp [Oper.wp, execOp, go_sem, r0]
            exact hK _ _ (Rg.grown_refl _ _) rfl
        · refine ⟨?_, ?_, ?_, ?_, ?_, ?_, ?_, ?_, ?_, ?_, trivial⟩
          · exact fun _ _ _ _ _ _ h => h
          · exact fun _ _ _ _ _ _ h => h
          · exact fun _ _ _ _ _ _ h => h
          · exact fun _ _ _ _ _ _ h => h
          · exact fun _ _ _ _ _ _ h => h
          · exact fun _ _ _ _ _ _ h => h
          · exact fun _ _ _ _ _ _ h => h
          · exact fun _ _ _ _ _ h ⟨p, hv, hp, hl, hc⟩ => ⟨p, hv, hp, Nat.lt_of_lt_of_le hl h.size, h.cell hc (fun e => by have := (own_lt HTD.out.o1 p e.symm).2; omega)⟩
          · exact fun _ _ _ _ _ h ho => ⟨own_grown ho.1 h, ho.2⟩
          · exact fun _ _ _ _ _ _ h => h
        · intro vals w2 G hg hS hG
          have s8 : w2.ownsRow w.heap.size 3 1 (vals 8) (A.length + 1) (A.map (Value.int .i64) ++ [.int .i64 (z : Int)]) ∧ ((vals 8).ownBlock = ((.slice x1 n1 y1) : Value).ownBlock ∨ ∃ p, (vals 8).ownBlock = some p ∧ wr.heap.size ≤ p) := hS.2.2.2.2.2.2.2.2.1
          have s9 : vals 9 = .pointer (some ⟨q7, 0, none⟩) := hS.2.2.2.2.2.2.2.2.2.1
          clear hS
          obtain ⟨V, hV⟩ : ∃ V, vals 8 = V := ⟨_, rfl⟩
          rw [hV] at s8
          have hgw := HTD.out.one s8.1 hg s8.2
          have hbx := HTD.out.bp.grown hg (box_off HTD.out.bp HTD.out.o1 (by decide))
          have qc : w2.cell? ⟨q7, 0, none⟩ = some (.slice x1 n1 y1) := hbx.cell 0 _ rfl
          have qf : w2.frozen? ⟨q7, 0, none⟩ = false := hbx.frozen 0
          have HTD2 := Lib.hid hgw
          obtain ⟨vo, vk, rfl, -⟩ := own_at s8.1
          clear hgw hbx s8 hg
          refine hG ?_
          clear hG
          simp [List.dropLast, Rg.putAll, Oper.wp, execOp, go_sem, s9, hV, qc, qf]
          clear qc qf s9 hV
          generalize w2.setCell ⟨q7, 0, none⟩ (.slice vo (A.length + 1) vk) = w9 at HTD2 ⊢
          clear HLEN
          go_wp2_with fail
          refine ⟨⟨k + 1, _, _, rfl, by omega, by rw [HT2.out], by rw [HA2.out, HB2.out]; exact HTD2.out⟩, by simp [intOf]; omega⟩

      · have fi : decide ((k : Int) < (i : Int)) = false := decide_eq_false (by omega)
        have hta := told_round hkl (show i ≤ k by omega)
        rw [ha] at hta
        obtain ⟨A, hA⟩ : ∃ A, ((l.take k).take i).map (fun a => (a.1 : Int)) = A := ⟨_, rfl⟩
        obtain ⟨B, hB⟩ : ∃ B, ((l.take k).drop i).map (fun a => (a.1 : Int)) = B := ⟨_, rfl⟩
        rw [hA, hB] at HTD
        obtain ⟨pz, hpz⟩ : ∃ pz, g.prio.getD z 0 = pz := ⟨_, rfl⟩
        have HPZ := Lib.hid hpz
        have HCZ0 := Lib.hid (show w.cell? ⟨bz, oz + k * 2, none⟩ = some (.int .i64 (z : Int)) by
          have h := HCZ.out
          rw [HTD.out.below.cell (p := ⟨bz, oz + k * 2, none⟩) HBZ.out] at h
          exact h)
        have HA2 := Lib.hid (show ((l.take (k + 1)).take i).map (fun a => (a.1 : Int)) = A by rw [hta.1, hA])
        have HB2 := Lib.hid (show ((l.take (k + 1)).drop i).map (fun a => (a.1 : Int)) = B ++ [(z : Int)] by rw [hta.2, List.map_append, hB]; simp [hz])
        have HT2 := Lib.hid (show P.topS g 0 ((l.take (k + 1)).drop i) = if tp < pz then pz else tp by rw [hta.2, topS_snoc, HTP.out, hz, hpz])
        have HLEN := Lib.hid (show B.length ≤ 12800 by rw [← hB, List.length_map, List.length_drop, List.length_take]; omega)
        obtain ⟨x2, y2, e2, -⟩ := own_at HTD.out.o2
        obtain ⟨n2, hn2⟩ : ∃ n, B.length = n := ⟨_, rfl⟩
        rw [hn2] at e2
        subst e2
        have HN2 := Lib.hid hn2
        clear hta hA hB hn2 ha hz hpz
        go_upto_region 8 with (fail)
        refine Rg.wp_region_lit (fun idx => match idx with | 0 => (fun v _ _ => v = (.pointer (some ⟨q7, 1, none⟩))) | 1 => (fun v _ _ => v = (.slice x2 n2 y2)) | 2 => (fun v _ _ => v = (.slice (some ⟨bz, oz, none⟩) m cz)) | 3 => (fun v _ _ => v = (.int .i64 (k : Int))) | 4 => (fun v _ _ => v = (.pointer (some ⟨bz, oz + k * 2, none⟩))) | 5 => (fun v _ _ => v = (.pointer (some ⟨bz, oz + k * 2, none⟩))) | 6 => (fun v _ _ => v = (.int .i64 (z : Int))) | 7 => (fun v _ w' => ∃ p, v = .slice (some ⟨p, 0, none⟩) 1 1 ∧ wr.heap.size ≤ p ∧ p < w'.heap.size ∧ w'.cell? ⟨p, 0, none⟩ = some (.int .i64 (z : Int))) | 8 => (fun v _ w' => w'.ownsRow w.heap.size 3 1 v (B.length + 1) (B.map (Value.int .i64) ++ [.int .i64 (z : Int)]) ∧ (v.ownBlock = ((.slice x2 n2 y2) : Value).ownBlock ∨ ∃ p, v.ownBlock = some p ∧ wr.heap.size ≤ p)) | 9 => (fun v _ _ => v = (.pointer (some ⟨q7, 1, none⟩))) | _ => fun _ _ _ => True) (((.slice x2 n2 y2) : Value).ownBlock) 8 (by kernel_rfl) (by rfl) (by kernel_rfl) (by rfl) ?_ ?_ ?_
        · refine ⟨?_, ?_, ?_, ?_, ?_, ?_, ?_, ?_, ?_, ?_, trivial⟩
          · intro A' w' K vals h hn hg hK
            have r0 : A'.tmps[7]?.getD undef = .pointer (some ⟨q7, 0, none⟩) := Rg.slot (h.1)
            clear h hn hg
            simp [Oper.wp, execOp, go_sem, r0]
            exact hK _ _ (Rg.grown_refl _ _) rfl
          · intro A' w' K vals h hn hg hK
            have r0 : A'.tmps[30]?.getD undef = vals 0 := Rg.slot h.1
            have r1 : vals 0 = (.pointer (some ⟨q7, 1, none⟩)) := hn.1
            have c : w'.cell? ⟨q7, 1, none⟩ = some (.slice x2 n2 y2) := (HTD.out.bp.grown hg (box_off HTD.out.bp HTD.out.o2 (by decide))).cell _ _ rfl
            clear h hn
            simp [Oper.wp, execOp, go_sem, r0, r1, c]
            exact hK _ _ (Rg.grown_refl _ _) rfl
          · intro A' w' K vals h hn hg hK
            have r0 : A'.tmps[1]?.getD undef = .slice (some ⟨bz, oz, none⟩) m cz := Rg.slot (h.1)
            clear h hn hg
            simp [Oper.wp, execOp, go_sem, r0]
            exact hK _ _ (Rg.grown_refl _ _) rfl
          · intro A' w' K vals h hn hg hK
            have r0 : A'.tmps[9]?.getD undef = .int .i64 (k : Int) := Rg.slot (h.1)
            clear h hn hg
            simp [Oper.wp, execOp, go_sem, r0]
            exact hK _ _ (Rg.grown_refl _ _) rfl
          · intro A' w' K vals h hn hg hK
            have r0 : A'.tmps[32]?.getD undef = vals 2 := Rg.slot h.1
            have r1 : A'.tmps[33]?.getD undef = vals 3 := Rg.slot h.2.1
            have r2 : vals 2 = (.slice (some ⟨bz, oz, none⟩) m cz) := hn.1
            have r3 : vals 3 = (.int .i64 (k : Int)) := hn.2.1
            clear h hn hg
            simp [Oper.wp, execOp, go_sem, r0, r1, r2, r3, hki, hk0]
            exact hK _ _ (Rg.grown_refl _ _) rfl
          · intro A' w' K vals h hn hg hK
            have r0 : A'.tmps[34]?.getD undef = vals 4 := Rg.slot h.1
            have r2 : vals 4 = (.pointer (some ⟨bz, oz + k * 2, none⟩)) := hn.1
            clear h hn hg
            simp [Oper.wp, execOp, go_sem, r0, r2]
            exact hK _ _ (Rg.grown_refl _ _) rfl
          · intro A' w' K vals h hn hg hK
            have r0 : A'.tmps[35]?.getD undef = vals 5 := Rg.slot h.1
            have r1 : vals 5 = (.pointer (some ⟨bz, oz + k * 2, none⟩)) := hn.1
            have c : w'.cell? ⟨bz, oz + k * 2, none⟩ = some (.int .i64 (z : Int)) := hg.cell HCZ.out (fun e => by have h1 : w.heap.size ≤ bz := (own_lt HTD.out.o2 _ e.symm).1; have h2 := HBZ.out; omega)
            clear h hn
            simp [Oper.wp, execOp, go_sem, r0, r1, c]
            exact hK _ _ (Rg.grown_refl _ _) rfl
          · intro A' w' K vals h hn hg hK
            have r0 : A'.tmps[36]?.getD undef = vals 6 := Rg.slot h.1
            have s0 : vals 6 = (.int .i64 (z : Int)) := hn.1
            clear h hn
            simp [Oper.wp, execOp, go_sem, r0, s0]
            exact hK _ _ (Rg.grown_weak (World.grownBy_alloc _ _ _)) ⟨w'.heap.size, rfl, hg.size, by simp, by simp⟩
          · intro A' w' K vals h hn hg hK
            have r0 : A'.tmps[31]?.getD undef = vals 1 := Rg.slot h.1
            have r1 : A'.tmps[37]?.getD undef = vals 7 := Rg.slot h.2.1
            have r2 : vals 1 = (.slice x2 n2 y2) := hn.1
            obtain ⟨p, e9, hp, hlt9, c9⟩ : ∃ p, vals 7 = .slice (some ⟨p, 0, none⟩) 1 1 ∧ wr.heap.size ≤ p ∧ p < w'.heap.size ∧ w'.cell? ⟨p, 0, none⟩ = some (.int .i64 (z : Int)) := hn.2.1
            clear h hn
            have hg : wr.grownBy w' none := hg
            have own : w'.ownsRow w.heap.size 3 1 (.slice x2 n2 y2) B.length (B.map (Value.int .i64)) := own_grown HTD.out.o2 hg
            have hlen := HLEN.out
            have hrow9 : Row w' (.slice (some ⟨p, 0, none⟩) 1 1) [.int .i64 (z : Int)] := ⟨_, _, rfl, .inr ⟨p, 0, rfl, hlt9, fun j u hu => by
              match j, hu with
              | 0, hu => simp at hu; subst hu; exact c9⟩⟩
            obtain ⟨v', w'', hrun, hown, hgr, hat⟩ := run_append elInt 22 own hrow9 (by intro u hu; simp at hu; subst hu; rfl) (by simp; omega) (by simp; omega) (Nat.le_trans HTD.out.below.size hg.size)
            refine op_append rfl (by simp [Act.eval, r0, r2]) (by simp [Act.eval, r1, e9]) hrun (hK _ _ hgr ⟨hown, ?_⟩)
            rcases hat with hat | hat
            · exact .inl hat
            · exact .inr ⟨_, hat, hg.size⟩
          · intro A' w' K vals h hn hg hK
            have r0 : A'.tmps[7]?.getD undef = .pointer (some ⟨q7, 0, none⟩) := Rg.slot (h.1)
            clear h hn hg
            simp [Oper.wp, execOp, go_sem, r0]
            exact hK _ _ (Rg.grown_refl _ _) rfl
        · refine ⟨?_, ?_, ?_, ?_, ?_, ?_, ?_, ?_, ?_, ?_, trivial⟩
          · exact fun _ _ _ _ _ _ h => h
          · exact fun _ _ _ _ _ _ h => h
          · exact fun _ _ _ _ _ _ h => h
          · exact fun _ _ _ _ _ _ h => h
          · exact fun _ _ _ _ _ _ h => h
          · exact fun _ _ _ _ _ _ h => h
          · exact fun _ _ _ _ _ _ h => h
          · exact fun _ _ _ _ _ h ⟨p, hv, hp, hl, hc⟩ => ⟨p, hv, hp, Nat.lt_of_lt_of_le hl h.size, h.cell hc (fun e => by have := (own_lt HTD.out.o2 p e.symm).2; omega)⟩
          · exact fun _ _ _ _ _ h ho => ⟨own_grown ho.1 h, ho.2⟩
          · exact fun _ _ _ _ _ _ h => h
        · intro vals w2 G hg hS hG
          have s8 : w2.ownsRow w.heap.size 3 1 (vals 8) (B.length + 1) (B.map (Value.int .i64) ++ [.int .i64 (z : Int)]) ∧ ((vals 8).ownBlock = ((.slice x2 n2 y2) : Value).ownBlock ∨ ∃ p, (vals 8).ownBlock = some p ∧ wr.heap.size ≤ p) := hS.2.2.2.2.2.2.2.2.1
          have s9 : vals 9 = .pointer (some ⟨q7, 1, none⟩) := hS.2.2.2.2.2.2.2.2.2.1
          clear hS
          obtain ⟨V, hV⟩ : ∃ V, vals 8 = V := ⟨_, rfl⟩
          rw [hV] at s8
          have hgw := HTD.out.two s8.1 hg s8.2
          have hbx := HTD.out.bp.grown hg (box_off HTD.out.bp HTD.out.o2 (by decide))
          have qc : w2.cell? ⟨q7, 1, none⟩ = some (.slice x2 n2 y2) := hbx.cell 1 _ rfl
          have qf : w2.frozen? ⟨q7, 1, none⟩ = false := hbx.frozen 1
          have HTD2 := Lib.hid hgw
          obtain ⟨vo, vk, rfl, -⟩ := own_at s8.1
          clear hgw hbx s8 hg
          refine hG ?_
          clear hG
          simp [List.dropLast, Rg.putAll, Oper.wp, execOp, go_sem, s9, hV, qc, qf]
          clear qc qf s9 hV
          generalize w2.setCell ⟨q7, 1, none⟩ (.slice vo (B.length + 1) vk) = w9 at HTD2 ⊢
          clear HLEN HCZ
          have hz0 : (0 : Int) ≤ (z : Int) := Int.natCast_nonneg _
          have hzn : (z : Int) < (n : Int) := by omega
          go_upto_region 9 with (fail)
          have HCP := HCB.out w9 HTD2.out.below z hal
          rw [HPZ.out] at HCP
          have HCZ9 : w9.cell? ⟨bz, oz + k * 2, none⟩ = some (.int .i64 (z : Int)) := by
            rw [HTD2.out.below.cell (p := ⟨bz, oz + k * 2, none⟩) HBZ.out]
            exact HCZ0.out
          have gc0 : w9.cell? ⟨q3, 0, none⟩ = some (.slice (some ⟨ba, oa, none⟩) n ka) := HTD2.out.bg.cell 0 _ rfl
          have gc1 : w9.cell? ⟨q3, 1, none⟩ = some (.slice (some ⟨bb, ob, none⟩) n kb) := HTD2.out.bg.cell 1 _ rfl
          have gc2 : w9.cell? ⟨q3, 2, none⟩ = some (.slice (some ⟨bc, oc, none⟩) n kc) := HTD2.out.bg.cell 2 _ rfl
          go_quiet (fail)
          clear HCP HCZ9 gc0 gc1 gc2
          replace HTD2 := Lib.hid (HTD2.out.on (grown_of_below (below_drewN (Below.refl _ w9) nq) none))
          generalize w9.drewN nq = w10 at HTD2 ⊢
          by_cases hlt : tp < pz
          · have fl : decide (tp < pz) = true := decide_eq_true hlt
            have HT3 := Lib.hid (show P.topS g 0 ((l.take (k + 1)).drop i) = pz by rw [HT2.out, if_pos hlt])
            go_upto_region 10 with (fail)
            have HCP := HCB.out w10 HTD2.out.below z hal
            rw [HPZ.out] at HCP
            have HCZ9 : w10.cell? ⟨bz, oz + k * 2, none⟩ = some (.int .i64 (z : Int)) := by
              rw [HTD2.out.below.cell (p := ⟨bz, oz + k * 2, none⟩) HBZ.out]
              exact HCZ0.out
            have gc0 : w10.cell? ⟨q3, 0, none⟩ = some (.slice (some ⟨ba, oa, none⟩) n ka) := HTD2.out.bg.cell 0 _ rfl
            have gc1 : w10.cell? ⟨q3, 1, none⟩ = some (.slice (some ⟨bb, ob, none⟩) n kb) := HTD2.out.bg.cell 1 _ rfl
            have gc2 : w10.cell? ⟨q3, 2, none⟩ = some (.slice (some ⟨bc, oc, none⟩) n kc) := HTD2.out.bg.cell 2 _ rfl
            go_quiet (fail)
            clear HCP HCZ9 gc0 gc1 gc2
            replace HTD2 := Lib.hid (HTD2.out.on (grown_of_below (below_drewN (Below.refl _ w10) nq) none))
            generalize w10.drewN nq = w11 at HTD2 ⊢
            go_wp2_with fail
            refine ⟨⟨k + 1, _, _, rfl, by omega, by rw [HT3.out], by rw [HA2.out, HB2.out]; exact HTD2.out⟩, by simp [intOf]; omega⟩
          · have fl : decide (tp < pz) = false := decide_eq_false hlt
            have HT3 := Lib.hid (show P.topS g 0 ((l.take (k + 1)).drop i) = tp by rw [HT2.out, if_neg hlt])
            go_wp2_with fail
            refine ⟨⟨k + 1, _, _, rfl, by omega, by rw [HT3.out], by rw [HA2.out, HB2.out]; exact HTD2.out⟩, by simp [intOf]; omega⟩
    · have fk : decide ((k : Int) < (m : Int)) = false := decide_eq_false (by omega)
      have hkm2 : k = m := by omega
      have e1 : l.take k = l := List.take_of_length_le (by rw [HM.out]; omega)
      rw [e1] at HTD HTP
      obtain ⟨A, hA⟩ : ∃ A, (l.take i).map (fun a => (a.1 : Int)) = A := ⟨_, rfl⟩
      obtain ⟨B, hB⟩ : ∃ B, (l.drop i).map (fun a => (a.1 : Int)) = B := ⟨_, rfl⟩
      rw [hA, hB] at HTD
      have HA := Lib.hid hA
      have HB := Lib.hid hB
      obtain ⟨x1, y1, e1, -⟩ := own_at HTD.out.o1
      obtain ⟨x2, y2, e2, -⟩ := own_at HTD.out.o2
      obtain ⟨n1, hn1⟩ : ∃ n, A.length = n := ⟨_, rfl⟩
      obtain ⟨n2, hn2⟩ : ∃ n, B.length = n := ⟨_, rfl⟩
      rw [hn1] at e1
      rw [hn2] at e2
      subst e1 e2
      have hmod : Int.tmod tp 2 = tp % 2 := Int.tmod_eq_emod_of_nonneg (by omega)
      clear hkm2 hA hB hn1 hn2
      have pc0 : wr.cell? ⟨q7, 0, none⟩ = some (.slice x1 n1 y1) := HTD.out.bp.cell 0 _ rfl
      have pc1 : wr.cell? ⟨q7, 1, none⟩ = some (.slice x2 n2 y2) := HTD.out.bp.cell 1 _ rfl
      have pc2 : wr.cell? ⟨q7, 2, none⟩ = some (.int .i64 0) := HTD.out.bp.cell 2 _ rfl
      have pf0 : wr.frozen? ⟨q7, 0, none⟩ = false := HTD.out.bp.frozen 0
      have pf1 : wr.frozen? ⟨q7, 1, none⟩ = false := HTD.out.bp.frozen 1
      have pf2 : wr.frozen? ⟨q7, 2, none⟩ = false := HTD.out.bp.frozen 2
      have rc0 : wr.cell? ⟨q6, 0, none⟩ = some (.slice none 0 0) := HTD.out.br.cell 0 _ rfl
      have rc1 : wr.cell? ⟨q6, 1, none⟩ = some (.slice none 0 0) := HTD.out.br.cell 1 _ rfl
      have rc2 : wr.cell? ⟨q6, 2, none⟩ = some (.int .i64 0) := HTD.out.br.cell 2 _ rfl
      have rf0 : wr.frozen? ⟨q6, 0, none⟩ = false := HTD.out.br.frozen 0
      have rf1 : wr.frozen? ⟨q6, 1, none⟩ = false := HTD.out.br.frozen 1
      have rf2 : wr.frozen? ⟨q6, 2, none⟩ = false := HTD.out.br.frozen 2
      have hne : q6 ≠ q7 := HTD.out.dif
      have hne2 : q7 ≠ q6 := Ne.symm hne
      go_wp2_with fail
      have htd := HTD.out
      refine bodyPost_ret (v := .agg #[.slice x1 n1 y1, .slice x2 n2 y2, .int .i64 (tp % 2)]) (by simp [results, Try.results15, go_sem, rc0, rc1, rc2]) rfl ⟨_, _, by rw [HTP.out], ?_, ?_, htd.apart, ?_⟩
      · rw [HA.out]
        exact own_set (own_set (own_set (own_set htd.o1 htd.bp (by decide) 2 _) (htd.br.far hne _) (by decide) 0 _) ((htd.br.far hne _).set 0 _) (by decide) 1 _) (((htd.br.far hne _).set 0 _).set 1 _) (by decide) 2 _
      · rw [HB.out]
        exact own_set (own_set (own_set (own_set htd.o2 htd.bp (by decide) 2 _) (htd.br.far hne _) (by decide) 0 _) ((htd.br.far hne _).set 0 _) (by decide) 1 _) (((htd.br.far hne _).set 0 _).set 1 _) (by decide) 2 _
      · exact (((htd.below.setCell (p := ⟨q7, 2, none⟩) htd.lo _).setCell (p := ⟨q6, 0, none⟩) HQ6.out _).setCell (p := ⟨q6, 1, none⟩) HQ6.out _).setCell (p := ⟨q6, 2, none⟩) HQ6.out _
end W
end Go.Proofs.Ytghdjkpndhcplaa
