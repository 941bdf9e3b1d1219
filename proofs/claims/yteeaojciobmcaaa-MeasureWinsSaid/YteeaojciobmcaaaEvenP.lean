/- Even: the program's. -/
import Derived.Test.YteeaojciobmcaaaLiftX
import Derived.Test.YteeaojciobmcaaaInwd
import Derived.Deep.Cut
import Derived.Lib.Hide
import Derived.Deep.QuietTactic
import Derived.BigQuiet
namespace Go.Proofs.Yteeaojciobmcaaa
open Go.RowKit
namespace W

/-- Numbers of a function, n of them. -/
def im (n : Nat) (m : Nat → Int) : Array Value := ((List.range n).map fun i => Value.int .i64 (m i)).toArray
theorem im_at {n : Nat} {m : Nat → Int} {i : Nat} (hi : i < n) : (im n m)[i]? = some (.int .i64 (m i)) := by
  unfold im
  simp [hi]
theorem im_set {n : Nat} {m : Nat → Int} (i : Nat) (z : Int) : (im n m).setIfInBounds i (.int .i64 z) = im n (fun y => if y = i then z else m y) := by
  unfold im
  apply Array.ext_getElem?
  intro j
  simp only [Array.getElem?_setIfInBounds, List.getElem?_toArray, List.getElem?_map]
  by_cases hj : j < n
  · rw [List.getElem?_range hj]
    by_cases e : i = j
    · subst e
      simp [hj]
    · rw [if_neg e, Option.map_some, Option.map_some, if_neg (fun h => e h.symm)]
  · rw [List.getElem?_eq_none (by simp; omega)]
    split
    · rw [if_neg (by simp; omega)]
      rfl
    · rfl
theorem im_congr {n : Nat} {m k : Nat → Int} (h : ∀ i, i < n → m i = k i) : im n m = im n k := by
  unfold im
  congr 1
  apply List.map_congr_left
  intro i hi
  rw [h i (List.mem_range.1 hi)]
theorem made_im (n : Nat) : madeCells #[Value.int .i64 0] n = im n (fun _ => 0) := by
  apply Array.ext'
  rw [toList_madeCells_one]
  unfold im
  apply List.ext_getElem (by simp)
  intro i h1 h2
  simp
/-- What Even keeps in memory. -/
structure Em (wb : World) (N qg qn pm n : Nat) (gv bn : Array Value) (m : Nat → Int) (R : List Int) (rv : Value) (w : World) : Prop where
  gbox : Box w qg 33 gv
  nbox : Box w qn 22 bn
  mv : Box w pm 3 (im n m)
  reg : w.ownsRow N 3 1 rv R.length (R.map (Value.int .i64))
  low : Below wb.heap.size wb w
  big : N ≤ w.heap.size
section
variable {wb w : World} {N qg qn pm n : Nat} {gv bn : Array Value} {m : Nat → Int} {R : List Int} {rv : Value}
theorem Em.on (h : Em wb N qg qn pm n gv bn m R rv w) {w' : World} (hb : Below w.heap.size w w') : Em wb N qg qn pm n gv bn m R rv w' :=
  ⟨h.gbox.keep (grown_of_below hb none), h.nbox.keep (grown_of_below hb none), h.mv.keep (grown_of_below hb none), own_grown h.reg (grown_of_below hb none), h.low.trans (hb.mono h.low.size), Nat.le_trans h.big hb.size⟩
theorem Em.put (h : Em wb N qg qn pm n gv bn m R rv w) (hp : wb.heap.size ≤ pm) (hN : pm < N) (h1 : qg ≠ pm) (h2 : qn ≠ pm) (j : Nat) (z : Int) : Em wb N qg qn pm n gv bn (fun y => if y = j then z else m y) R rv (w.setCell ⟨pm, j, none⟩ (.int .i64 z)) where
  gbox := h.gbox.far h1 _
  nbox := h.nbox.far h2 _
  mv := by
    have := h.mv.set j (.int .i64 z)
    rw [im_set] at this
    exact this
  reg := own_kept h.reg (grown_set w ⟨pm, j, none⟩ _) (.inr fun e => by have := (own_lt h.reg pm e).1; omega)
  low := h.low.setCell hp _
  big := by have := h.big; simp [World.setCell]; exact this
theorem Em.turn {k : Nat → Int} (h : Em wb N qg qn pm n gv bn m R rv w) (e : im n m = im n k) : Em wb N qg qn pm n gv bn k R rv w := ⟨h.gbox, h.nbox, e ▸ h.mv, h.reg, h.low, h.big⟩
theorem box_own {lo q : Nat} {f : Nat → Int} (h : Box w q 3 (im n f)) (hlo : lo ≤ q) (hn : n ≤ maxLen) : w.ownsRow lo 3 1 (.slice (some ⟨q, 0, none⟩) n n) n ((List.range n).map fun i => .int .i64 (f i)) := by
  have hs : (im n f).size = n := by unfold im; simp
  refine ⟨by simp, .inr ⟨q, n, im n f, rfl, hlo, h, Nat.le_refl _, hn, by rw [hs, Nat.mul_one], ?_⟩⟩
  rw [Nat.mul_one, List.take_of_length_le (by rw [Array.length_toList, hs]; exact Nat.le_refl _)]
  rfl
theorem Em.push (h : Em wb N qg qn pm n gv bn m R rv w) (hg : qg < N) (hn : qn < N) (hp : pm < N) (hw : wb.heap.size ≤ N) {v' : Value} {u : Obj} {w7 : World} {x : Int} (hgr : (w.alloc u).grownBy w7 rv.ownBlock) (hown : w7.ownsRow N 3 1 v' (R.length + 1) (R.map (Value.int .i64) ++ [.int .i64 x])) : Em wb N qg qn pm n gv bn m (R ++ [x]) v' w7 := by
  have hN0 : ∀ b, rv.ownBlock = some b → N ≤ b := fun b hb => (own_lt h.reg b hb).1
  have far : ∀ q, q < N → some q ≠ rv.ownBlock := fun q hq e => by have := hN0 q e.symm; omega
  refine ⟨(h.gbox.alloc u).grown hgr (far _ hg), (h.nbox.alloc u).grown hgr (far _ hn), (h.mv.alloc u).grown hgr (far _ hp), ?_, ?_, ?_⟩
  · rw [List.map_append, List.length_append]
    exact hown
  · exact h.low.trans (((Below.refl wb.heap.size w).alloc h.low.size u).grown hgr (by have := h.low.size; simp; omega) (fun k e => Nat.le_trans hw (hN0 k e)))
  · have := h.big
    have := hgr.size
    simp at this
    omega
end
theorem row_at {w : World} {q : Nat} {x : Value} {e : TypeId} (h : w.heap.size = q) : Row (w.alloc (.cells #[x] e)) (.slice (some ⟨q, 0, none⟩) 1 1) [x] := by
  subst h
  exact row_one _ _ _
/-- What Even says. -/
def evT (g : P.G) (l : List P.Tup) (i : Nat) : Int := if (l.getD i .zero).top = true then -1 else if g.owner.getD i 0 = 0 then (g.choose l i).1 else -1
def evM (g : P.G) (l : List P.Tup) : List Int := if fits g l = true then (List.range l.length).map (evT g l) else []
def evF (l : List P.Tup) (j : Nat) : List Int := ((List.range j).filter fun i => !(l.getD i .zero).top).map fun (i : Nat) => (i : Int)
def evR (g : P.G) (l : List P.Tup) : List Int := if fits g l = true then evF l l.length else []
theorem evF_succ (l : List P.Tup) (j : Nat) : evF l (j + 1) = evF l j ++ (if (l.getD j .zero).top = true then [] else [(j : Int)]) := by
  unfold evF
  rw [List.range_succ, List.filter_append, List.map_append]
  congr 1
  cases h : (l.getD j .zero).top
  · rw [List.filter_cons_of_pos (by rw [h]; rfl)]
    rfl
  · rw [List.filter_cons_of_neg (by rw [h]; simp)]
    rfl
theorem evF_len (l : List P.Tup) (j : Nat) : (evF l j).length ≤ j := by
  unfold evF
  rw [List.length_map]
  exact Nat.le_trans (List.length_filter_le _ _) (by simp)

set_option maxRecDepth 100000 in
set_option maxHeartbeats 1000000 in
theorem even_bad (g : P.G) (l : List P.Tup) (v vl : Value) (w : World) (hv : GameV w v g) (hV : TupsV w vl l) (hf : fits g l = false) :
    Calls Try.prog 27 #[v, vl] w fun e w' => e = .returned (.tuple #[.slice none 0 0, .slice none 0 0]) ∧ Below w.heap.size w w' := by
  have HV := Lib.hid hv
  have HVL := Lib.hid hV
  have HF := Lib.hid hf
  obtain ⟨a, b, c, rfl, -⟩ := hv
  clear hV hf
  go_enter Try.func27, Try.ntmps27
  go_wp2_with fail
  have bx0 : Box (w.alloc (.cells #[a, b, c] 33)) (w.heap.size) 33 #[a, b, c] := Box.new w 33 #[a, b, c]
  have hbq : Below w.heap.size w (w.alloc (.cells #[a, b, c] 33)) := (Below.refl _ w).alloc (Nat.le_refl _) _
  have hle0 : w.heap.size ≤ w.heap.size := Nat.le_refl _
  generalize (w.alloc (.cells #[a, b, c] 33)) = w0 at bx0 hbq  ⊢
  have BQg := Lib.hid bx0
  have W := Lib.hid hbq
  have LEg := Lib.hid hle0
  clear hbq hle0 bx0 
  obtain ⟨qg, hqg⟩ : ∃ qg, w.heap.size = qg := ⟨_, rfl⟩
  rw [hqg] at BQg ⊢
  have LEg : Hid (w.heap.size ≤ qg) := Lib.hid (by omega)
  clear hqg
  refine (fits_any g l _ _ w0 (HV.out.on W.out) (HVL.out.on W.out)).mono ?_
  rintro e w1 ⟨rfl, hb⟩
  replace W := Lib.hid (W.out.trans (hb.mono W.out.size))
  clear hb
  rw [HF.out]
  go_wp2_with fail
  exact bodyPost_ret (v := .tuple #[.slice none 0 0, .slice none 0 0]) (by simp [results, Try.results27, go_sem]) rfl ⟨rfl, W.out⟩

set_option maxRecDepth 100000 in
set_option maxHeartbeats 4000000 in
theorem even_good (g : P.G) (hr : g.Right) (l : List P.Tup) (hll : l.length = g.owner.length) (hlow : ∀ j k, k < 4 → -9223372036854775808 ≤ ct (l.getD j .zero) k) (v vl : Value) (w : World) (hv : GameV w v g) (hV : TupsV w vl l) :
    Calls Try.prog 27 #[v, vl] w fun e w' => ∃ v1 v2, e = .returned (.tuple #[v1, v2]) ∧ OwnI w' w.heap.size v1 (evF l l.length) ∧ OwnI w' w.heap.size v2 ((List.range l.length).map (evT g l)) ∧ Below w.heap.size w w' := by
  have hop := hr.prio
  have hmp := hr.moves
  have hmany := hr.many
  have h0 := hr.pos
  have HLL := Lib.hid hll
  have HV := Lib.hid hv
  have HVL := Lib.hid hV
  obtain ⟨n, hn⟩ : ∃ n, g.owner.length = n := ⟨_, rfl⟩
  rw [hn] at hop hmp hmany h0 hll
  have HFT := Lib.hid (show fits g l = true by unfold fits; rw [(P.G.ok_iff g).2 hr, hll, hn, decide_eq_true rfl]; rfl)
  obtain ⟨ba, oa, ka, bb, ob, kb, bc_, oc, kc, rfl, hca, -, -⟩ := hv.open_ hn hop hmp h0
  obtain ⟨bl, ol, kl, rfl, hbl, hcl⟩ := hV.open_ hll h0
  have HCA := Lib.hid hca
  have HCL := Lib.hid hcl
  have HR := Lib.hid hr
  have HN := Lib.hid hn
  have HLN := Lib.hid hll
  have HLOW := Lib.hid hlow
  clear hca hcl hr hn hop hmp hV hlow hbl hll
  go_enter Try.func27, Try.ntmps27
  go_wp2_with fail
  have bx0 : Box (w.alloc (.cells #[.slice (some ⟨ba, oa, none⟩) n ka, .slice (some ⟨bb, ob, none⟩) n kb, .slice (some ⟨bc_, oc, none⟩) n kc] 33)) (w.heap.size) 33 #[.slice (some ⟨ba, oa, none⟩) n ka, .slice (some ⟨bb, ob, none⟩) n kb, .slice (some ⟨bc_, oc, none⟩) n kc] := Box.new w 33 #[.slice (some ⟨ba, oa, none⟩) n ka, .slice (some ⟨bb, ob, none⟩) n kb, .slice (some ⟨bc_, oc, none⟩) n kc]
  have hbq : Below w.heap.size w (w.alloc (.cells #[.slice (some ⟨ba, oa, none⟩) n ka, .slice (some ⟨bb, ob, none⟩) n kb, .slice (some ⟨bc_, oc, none⟩) n kc] 33)) := (Below.refl _ w).alloc (Nat.le_refl _) _
  have hle0 : w.heap.size ≤ w.heap.size := Nat.le_refl _
  generalize (w.alloc (.cells #[.slice (some ⟨ba, oa, none⟩) n ka, .slice (some ⟨bb, ob, none⟩) n kb, .slice (some ⟨bc_, oc, none⟩) n kc] 33)) = w0 at bx0 hbq  ⊢
  have BQg := Lib.hid bx0
  have W := Lib.hid hbq
  have LEg := Lib.hid hle0
  clear hbq hle0 bx0 
  obtain ⟨qg, hqg⟩ : ∃ qg, w.heap.size = qg := ⟨_, rfl⟩
  rw [hqg] at BQg ⊢
  have LEg : Hid (w.heap.size ≤ qg) := Lib.hid (by omega)
  clear hqg
  refine (fits_any g l _ _ w0 (HV.out.on W.out) (HVL.out.on W.out)).mono ?_
  rintro e w1 ⟨rfl, hb⟩
  replace BQg := Lib.hid (BQg.out.keep (grown_of_below hb none))
  replace W := Lib.hid (W.out.trans (hb.mono W.out.size))
  clear hb
  rw [HFT.out]
  have hbb := BQg.out
  have gc0 : w1.cell? ⟨qg, 0, none⟩ = some (.slice (some ⟨ba, oa, none⟩) n ka) := hbb.cell 0 _ rfl
  have gc1 : w1.cell? ⟨qg, 1, none⟩ = some (.slice (some ⟨bb, ob, none⟩) n kb) := hbb.cell 1 _ rfl
  have gc2 : w1.cell? ⟨qg, 2, none⟩ = some (.slice (some ⟨bc_, oc, none⟩) n kc) := hbb.cell 2 _ rfl
  clear hbb
  go_wp2_with fail
  refine (bounds_any g _ w1 (HV.out.on W.out)).mono ?_
  rintro e w2 ⟨rfl, hb⟩
  replace BQg := Lib.hid (BQg.out.keep (grown_of_below hb none))
  replace W := Lib.hid (W.out.trans (hb.mono W.out.size))
  clear hb gc0 gc1 gc2
  unfold bc
  go_wp2_with (refine wpl_made elInt rfl (.tmp 18) (.tmp 18) rfl n rfl rfl (by omega) (by omega) ?_; intro w7 hw7; have HW7 := Lib.hid hw7; clear hw7)
  have hw7 := HW7.out
  have hgt := BQg.out.lt
  have hbg : Box w7 qg 33 #[.slice (some ⟨ba, oa, none⟩) n ka, .slice (some ⟨bb, ob, none⟩) n kb, .slice (some ⟨bc_, oc, none⟩) n kc] := by rw [hw7]; exact (BQg.out.alloc _).alloc _
  have hbn : Box w7 w2.heap.size 22 (bc g.tups) := by rw [hw7]; exact (Box.new w2 _ _).alloc _
  have hbp : Box w7 (w2.heap.size + 1) 3 (im n (fun _ => 0)) := by
    rw [hw7, ← made_im]
    have := made_box (w2.alloc (.cells (bc g.tups) 22)) 3 (.int .i64 0) n
    have this2 : Box (Made (w2.alloc (.cells (bc g.tups) 22)) 3 (.int .i64 0) n) (w2.heap.size + 1) 3 (madeCells #[.int .i64 0] n) := by simpa using this
    exact this2
  have hs7 : w7.heap.size = w2.heap.size + 2 := by rw [hw7]; unfold Made; simp
  have hb7 : Below w.heap.size w w7 := by rw [hw7]; exact (W.out.alloc W.out.size _).alloc (by have := W.out.size; simp; omega) _
  have hws := W.out.size
  rw [show #[Value.int .i64 g.tups.a, .int .i64 g.tups.b, .int .i64 g.tups.c, .int .i64 g.tups.d] = bc g.tups from rfl]
  clear hw7 HW7 BQg W
  obtain ⟨qn, hqn⟩ : ∃ q, w2.heap.size = q := ⟨_, rfl⟩
  rw [hqn] at hbn hbp hs7 hgt hws ⊢
  obtain ⟨N, hN⟩ : ∃ N, w7.heap.size = N := ⟨_, rfl⟩
  obtain ⟨pm, hpm⟩ : ∃ q, qn + 1 = q := ⟨_, rfl⟩
  rw [hpm] at hbp
  have epm : (w2.alloc (.cells (bc g.tups) 22)).heap.size = pm := by simp; omega
  have HORD := Lib.hid (show w.heap.size ≤ qg ∧ qg < qn ∧ qn < pm ∧ pm < N by have := LEg.out; omega)
  have HE0 := Lib.hid (show Em w N qg qn pm n #[.slice (some ⟨ba, oa, none⟩) n ka, .slice (some ⟨bb, ob, none⟩) n kb, .slice (some ⟨bc_, oc, none⟩) n kc] (bc g.tups) (fun _ => 0) [] (.slice none 0 0) w7 from ⟨hbg, hbn, hbp, World.ownsRow_nil _ _ _ _, hb7, by omega⟩)
  clear hbg hbn hbp hs7 hgt hb7 hws hqn hN
  try rw [hpm]
  clear hpm epm
  go_loopw [7, 22] (fun rv iv wr => ∃ (j : Nat), j ≤ n ∧ iv = .int .i64 (j : Int) ∧ Em w N qg qn pm n #[.slice (some ⟨ba, oa, none⟩) n ka, .slice (some ⟨bb, ob, none⟩) n kb, .slice (some ⟨bc_, oc, none⟩) n kc] (bc g.tups) (fun y => if y < j then evT g l y else 0) (evF l j) rv wr) (fun _ iv _ => n - (intOf iv).toNat)
  case atStart => exact ⟨0, Nat.zero_le _, rfl, HE0.out⟩
  case round =>
    obtain ⟨j, hj, rfl, hem⟩ := hrel
    have hj0 : (0 : Int) ≤ (j : Int) := Int.natCast_nonneg _
    by_cases hlt : j < n
    · have fj : decide ((j : Int) < (n : Int)) = true := decide_eq_true (by omega)
      have hji : (j : Int) < (n : Int) := by omega
      obtain ⟨t, ht⟩ : ∃ t, l.getD j .zero = t := ⟨_, rfl⟩
      have hcl := HCL.out wr hem.low j hlt
      rw [ht] at hcl
      have HEM := Lib.hid hem
      have HT := Lib.hid ht
      have HLT := Lib.hid hlt
      clear hem ht hlt
      obtain ⟨tt, ta, tb, tcc, td⟩ := t
      have HE1 := HEM.out.on ((Below.refl wr.heap.size wr).alloc (Nat.le_refl _) (.cells #[.bool tt, .int .i64 ta, .int .i64 tb, .int .i64 tcc, .int .i64 td] 26))
      have HE2 := Lib.hid (HE1.put (by have := HORD.out; omega) (by have := HORD.out; omega) (by have := HORD.out; omega) (by have := HORD.out; omega) j (-1))
      have cm := HE1.mv.cell j _ (im_at HLT.out)
      have fm := HE1.mv.frozen j
      have b0 := ((Box.new wr 26 #[.bool tt, .int .i64 ta, .int .i64 tb, .int .i64 tcc, .int .i64 td]).far (p := ⟨pm, j, none⟩) (by have := HEM.out.mv.lt; simp only; omega) (.int .i64 (-1))).cell 0 _ rfl
      have kl0 : wr.cell? ⟨bl, ol + j * 5, none⟩ = some (.bool tt) := hcl 0 _ rfl
      have kl1 : wr.cell? ⟨bl, ol + j * 5 + 1, none⟩ = some (.int .i64 ta) := hcl 1 _ rfl
      have kl2 : wr.cell? ⟨bl, ol + j * 5 + 2, none⟩ = some (.int .i64 tb) := hcl 2 _ rfl
      have kl3 : wr.cell? ⟨bl, ol + j * 5 + 3, none⟩ = some (.int .i64 tcc) := hcl 3 _ rfl
      have kl4 : wr.cell? ⟨bl, ol + j * 5 + 4, none⟩ = some (.int .i64 td) := hcl 4 _ rfl
      clear hcl HE1
      rcases (show tt = true ∨ tt = false by cases tt <;> simp) with rfl | rfl
      · have HEV := Lib.hid (show evT g l j = -1 by unfold evT; rw [HT.out]; rfl)
        have HEF := Lib.hid (show evF l (j + 1) = evF l j by rw [evF_succ, HT.out]; exact List.append_nil _)
        go_wp2_with fail
        clear cm fm b0 kl0 kl1 kl2 kl3 kl4
        have hm : im n (fun y => if y = j then -1 else if y < j then evT g l y else 0) = im n (fun y => if y < j + 1 then evT g l y else 0) := im_congr fun y hy => by
          by_cases e : y = j
          · rw [if_pos e, if_pos (by omega), e, HEV.out]
          · rw [if_neg e]
            by_cases h : y < j
            · rw [if_pos h, if_pos (by omega)]
            · rw [if_neg h, if_neg (by omega)]
        have HREL := Lib.hid (HE2.out.turn hm)
        rw [← HEF.out] at HREL
        clear hm
        go_roundw
        case rel => exact ⟨j + 1, by have := HLT.out; omega, by first | rfl | go_num, HREL.out⟩
        case measure => have := HLT.out; simp [intOf]; omega
      · have HEF := Lib.hid (show evF l (j + 1) = evF l j ++ [(j : Int)] by rw [evF_succ, HT.out]; rfl)
        have HLEN := Lib.hid (evF_len l j)
        go_wp2_with (at_builtin; refine wpl_append elInt rfl (.tmp 32) (.tmp 34) rfl rfl (own_grown HE2.out.reg (World.grownBy_alloc _ _ none)) rfl (row_at (by simp [World.setCell])) ?_ ?_ ?_ ?_ ?_)
        · intro u hu; simp at hu; subst hu; rfl
        · simp; have := HLEN.out; omega
        · simp; have := HLEN.out; omega
        · have := HE2.out.big; simp at this ⊢; omega
        intro v' w7 hown hgr hat
        obtain ⟨vo1, vk1, rfl, -⟩ := own_at hown
        have hp := HE2.out.push (by have := HORD.out; omega) (by have := HORD.out; omega) (by have := HORD.out; omega) (by have := HORD.out; omega) hgr (x := (j : Int)) (by simpa using hown)
        rw [← HEF.out] at hp
        have HE3 := Lib.hid hp
        have g0 := hp.gbox.cell 0 _ rfl
        have co := HCA.out w7 hp.low j HLT.out
        clear hown hgr hat hp cm fm b0 kl0 kl1 kl2 kl3 kl4
        obtain ⟨zo, hzo⟩ : ∃ z, g.owner.getD j 0 = z := ⟨_, rfl⟩
        rw [hzo] at co
        by_cases hz0 : zo = 0
        · have f0 : (zo == 0) = true := by rw [beq_iff_eq]; exact hz0
          have HEV := Lib.hid (show evT g l j = (g.choose l j).1 by unfold evT; rw [HT.out]; exact (if_neg (by simp)).trans (by rw [hzo, if_pos hz0]))
          have g1 := HE3.out.gbox.cell 1 _ rfl
          have g2 := HE3.out.gbox.cell 2 _ rfl
          have n0 := HE3.out.nbox.cell 0 _ rfl
          have n1 := HE3.out.nbox.cell 1 _ rfl
          have n2 := HE3.out.nbox.cell 2 _ rfl
          have n3 := HE3.out.nbox.cell 3 _ rfl
          clear hz0 hzo
          go_wp2_with fail
          clear g0 g1 g2 n0 n1 n2 n3 co
          refine (choose_any g HR.out l HLL.out HLOW.out j (by rw [HN.out]; exact HLT.out) _ _ w7 (HV.out.on HE3.out.low) (HVL.out.on HE3.out.low)).mono ?_
          rintro e w8 ⟨rfl, hb⟩
          have HE4 := Lib.hid (HE3.out.on hb)
          have cm := HE4.out.mv.cell j _ (im_at HLT.out)
          have fm := HE4.out.mv.frozen j
          clear hb
          go_wp2_with fail
          clear cm fm
          have hm : im n (fun y => if y = j then (g.choose l j).1 else if y = j then -1 else if y < j then evT g l y else 0) = im n (fun y => if y < j + 1 then evT g l y else 0) := im_congr fun y hy => by
            by_cases e : y = j
            · subst e
              rw [if_pos rfl]
              rw [if_pos (show y < y + 1 by omega), HEV.out]
            · rw [if_neg e, if_neg e]
              by_cases h : y < j
              · rw [if_pos h, if_pos (show y < j + 1 by omega)]
              · rw [if_neg h, if_neg (show ¬ y < j + 1 by omega)]
          have HREL := Lib.hid ((HE4.out.put (by have := HORD.out; omega) (by have := HORD.out; omega) (by have := HORD.out; omega) (by have := HORD.out; omega) j (g.choose l j).1).turn hm)
          clear hm
          go_roundw
          case rel => exact ⟨j + 1, by have := HLT.out; omega, by first | rfl | go_num, HREL.out⟩
          case measure => have := HLT.out; simp [intOf]; omega
        · have f0 : (zo == 0) = false := by rw [beq_eq_false_iff_ne]; exact hz0
          have HEV := Lib.hid (show evT g l j = -1 by unfold evT; rw [HT.out]; exact (if_neg (by simp)).trans (by rw [hzo, if_neg hz0]))
          clear hz0 hzo
          go_wp2_with fail
          clear g0 co
          have hm : im n (fun y => if y = j then -1 else if y < j then evT g l y else 0) = im n (fun y => if y < j + 1 then evT g l y else 0) := im_congr fun y hy => by
            by_cases e : y = j
            · subst e
              rw [if_pos rfl]
              rw [if_pos (show y < y + 1 by omega), HEV.out]
            · rw [if_neg e]
              by_cases h : y < j
              · rw [if_pos h, if_pos (show y < j + 1 by omega)]
              · rw [if_neg h, if_neg (show ¬ y < j + 1 by omega)]
          have HREL := Lib.hid (HE3.out.turn hm)
          clear hm
          go_roundw
          case rel => exact ⟨j + 1, by have := HLT.out; omega, by first | rfl | go_num, HREL.out⟩
          case measure => have := HLT.out; simp [intOf]; omega
    · have fj : decide ((j : Int) < (n : Int)) = false := decide_eq_false (by omega)
      have hjn : j = n := by omega
      subst hjn
      have HEM := Lib.hid hem
      have hm : im j (fun y => if y < j then evT g l y else 0) = im j (evT g l) := im_congr fun i hi => if_pos hi
      clear hem
      go_wp2_with fail
      refine bodyPost_ret (v := .tuple #[u7, .slice (some ⟨pm, 0, none⟩) j j]) (by simp [results, Try.results27, go_sem]) rfl ?_
      refine ⟨_, _, rfl, ?_, ?_, HEM.out.low⟩
      · unfold OwnI
        rw [HLN.out]
        exact own_more HEM.out.reg (by have := HORD.out; omega)
      · have hbx := HEM.out.mv
        rw [hm] at hbx
        unfold OwnI
        rw [HLN.out, List.length_map, List.length_range, List.map_map]
        exact box_own hbx (by have := HORD.out; omega) (by unfold maxLen; omega)
end W
end Go.Proofs.Yteeaojciobmcaaa
