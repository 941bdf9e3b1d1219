/- The order in which positions are lifted: the program's walk. -/
import Derived.Test.YteeaojciobmcaaaWalkP
import Derived.Test.YteeaojciobmcaaaGrowR
import Derived.Test.YteeaojciobmcaaaReads
import Derived.Test.YteeaojciobmcaaaPart
import Derived.Deep.Cut
import Derived.Lib.Hide
import Derived.Deep.QuietTactic
import Derived.BigQuiet
namespace Go.Proofs.Yteeaojciobmcaaa
open Go.RowKit
namespace W

/-- Bools of a function, n of them. -/
def bl (n : Nat) (M : Nat → Bool) : Array Value := ((List.range n).map fun i => Value.bool (M i)).toArray
theorem bl_at {n : Nat} {M : Nat → Bool} {i : Nat} (hi : i < n) : (bl n M)[i]? = some (.bool (M i)) := by
  unfold bl
  simp [hi]
theorem bl_set {n : Nat} {M : Nat → Bool} (i : Nat) (b : Bool) : (bl n M).setIfInBounds i (.bool b) = bl n (fun y => if y = i then b else M y) := by
  unfold bl
  apply Array.ext_getElem?
  intro j
  simp only [Array.getElem?_setIfInBounds, List.getElem?_toArray, List.getElem?_map]
  by_cases hj : j < n
  · rw [List.getElem?_range hj]
    by_cases e : i = j
    · subst e
      simp [hj]
    · rw [if_neg e, Option.map_some, Option.map_some, if_neg (fun h => e h.symm)]
  · rw [List.getElem?_eq_none (by simp; omega)]
    split
    · rw [if_neg (by simp; omega)]
      rfl
    · rfl
/-- Numbers as values. -/
def nv (O : List Nat) : List Value := O.map fun (x : Nat) => Value.int .i64 (x : Int)
/-- What the walk keeps in memory. -/
structure Wm (wb w0 : World) (N n qg qm qw qo pm : Nat) (gv : Array Value) (M : Nat → Bool) (O : List Nat) (w : World) : Prop where
  gbox : Box w qg 33 gv
  mbox : Box w qm 71 #[.slice (some ⟨pm, 0, none⟩) n n]
  wbox : Box w qw 89 #[.func (.func 59) #[] #[.pointer (some ⟨qm, 0, none⟩), .pointer (some ⟨qg, 0, none⟩), .pointer (some ⟨qw, 0, none⟩), .pointer (some ⟨qo, 0, none⟩)]]
  obox : ∃ qv, Box w qo 30 #[qv] ∧ w.ownsRow N 3 1 qv O.length (nv O)
  met : Box w pm 4 (bl n M)
  low : Below wb.heap.size wb w
  keep : Rk.Keeps (KX N [qo, pm]) w0 w
  big : N ≤ w.heap.size
section
variable {wb w0 w : World} {N n qg qm qw qo pm : Nat} {gv : Array Value} {M : Nat → Bool} {O : List Nat}
theorem Wm.mark (h : Wm wb w0 N n qg qm qw qo pm gv M O w) (hb : wb.heap.size ≤ pm) (h1 : qg ≠ pm) (h2 : qm ≠ pm) (h3 : qw ≠ pm) (h4 : qo ≠ pm) (h5 : pm < N) (i : Nat) : Wm wb w0 N n qg qm qw qo pm gv (P.mark M i) O (w.setCell ⟨pm, i, none⟩ (.bool true)) where
  gbox := h.gbox.far h1 _
  mbox := h.mbox.far h2 _
  wbox := h.wbox.far h3 _
  obox := by
    obtain ⟨qv, h6, h7⟩ := h.obox
    exact ⟨qv, h6.far h4 _, own_kept h7 (grown_set w ⟨pm, i, none⟩ _) (.inr fun e => by have := (own_lt h7 pm e).1; omega)⟩
  met := by
    have := h.met.set i (.bool true)
    rw [bl_set] at this
    exact this
  low := h.low.setCell hb _
  keep := h.keep.trans (kx_set w (.inl (by simp)) i _)
  big := by have := h.big; simp [World.setCell]; exact this

theorem Wm.push (h : Wm wb w0 N n qg qm qw qo pm gv M O w) (hw0 : wb.heap.size ≤ qo) (hN : qo < N) (hp : pm < N) (h1 : qg ≠ qo) (h2 : qm ≠ qo) (h3 : qw ≠ qo) (h4 : pm ≠ qo) (hg : qg < N) (hm : qm < N) (hw : qw < N) (hbN : wb.heap.size ≤ N)
    {qv v' : Value} {u : Obj} {w7 : World} (ho : w.ownsRow N 3 1 qv O.length (nv O)) (hbx : Box w qo 30 #[qv]) {x : Nat} (hgr : (w.alloc u).grownBy w7 qv.ownBlock) (hown : w7.ownsRow N 3 1 v' (O.length + 1) (nv O ++ [.int .i64 (x : Int)])) :
    Wm wb w0 N n qg qm qw qo pm gv M (O ++ [x]) (w7.setCell ⟨qo, 0, none⟩ v') := by
  have hN0 : ∀ b, qv.ownBlock = some b → N ≤ b := fun b hb => (own_lt ho b hb).1
  have far : ∀ q, q < N → some q ≠ qv.ownBlock := fun q hq e => by have := hN0 q e.symm; omega
  have hal := World.grownBy_alloc w u none
  have hk1 : Rk.Keeps (KX N [qo, pm]) w (w.alloc u) := kx_grown hal (fun k e => by cases e)
  have hk2 : Rk.Keeps (KX N [qo, pm]) (w.alloc u) w7 := kx_grown hgr (fun k e => .inr (hN0 k e))
  refine ⟨(((h.gbox.alloc u).grown hgr (far _ hg)).far h1 _), (((h.mbox.alloc u).grown hgr (far _ hm)).far h2 _), (((h.wbox.alloc u).grown hgr (far _ hw)).far h3 _), ⟨v', ?_, ?_⟩, (((h.met.alloc u).grown hgr (far _ hp)).far h4 _), ?_, ?_, ?_⟩
  · have := ((hbx.alloc u).grown hgr (far _ hN)).set 0 v'
    exact this
  · have e : nv (O ++ [x]) = nv O ++ [.int .i64 (x : Int)] := by unfold nv; rw [List.map_append]; rfl
    rw [e, List.length_append]
    exact own_kept hown (grown_set w7 ⟨qo, 0, none⟩ _) (.inr fun e => by have := (own_lt hown qo e).1; omega)
  · have h5 := h.low.trans (((Below.refl wb.heap.size w).alloc h.low.size u).grown hgr (by have := h.low.size; simp; omega) (fun k e => Nat.le_trans hbN (hN0 k e)))
    exact h5.setCell hw0 _
  · exact ((h.keep.trans hk1).trans hk2).trans (kx_set w7 (.inl (by simp)) 0 _)
  · have := h.big
    have := hgr.size
    simp [World.setCell] at this ⊢
    omega
end

set_option maxRecDepth 100000 in
set_option maxHeartbeats 1000000 in
theorem walk_met (wb w0 w : World) (N n qg qm qw qo pm : Nat) (gv : Array Value) (M : Nat → Bool) (O : List Nat) (h : Wm wb w0 N n qg qm qw qo pm gv M O w) (i : Nat) (hi : i < n) (hM : M i = true) :
    Calls Try.prog 59 #[.int .i64 (i : Int), .pointer (some ⟨qm, 0, none⟩), .pointer (some ⟨qg, 0, none⟩), .pointer (some ⟨qw, 0, none⟩), .pointer (some ⟨qo, 0, none⟩)] w fun e w' => e = .returned (.tuple #[]) ∧ w' = w := by
  have hi0 : (0 : Int) ≤ (i : Int) := Int.natCast_nonneg _
  have hii : (i : Int) < (n : Int) := by omega
  have c0 := h.mbox.cell 0 _ rfl
  have c1 := h.met.cell i _ (bl_at hi)
  rw [hM] at c1
  clear h
  go_enter Try.func59, Try.ntmps59
  go_wp2_with fail
  refine bodyPost_ret (results_none rfl _ _ _) rfl ?_
  exact ⟨rfl, rfl⟩

/-- The rows of moves, at any later world. -/
def Rows (g : P.G) (wb : World) (n bc_ oc : Nat) : Prop := ∀ j, j < n → ∃ b off k, ∀ w', Below wb.heap.size wb w' → w'.cell? ⟨bc_, oc + j, none⟩ = some (.slice (some ⟨b, off, none⟩) (g.moves.getD j []).length k) ∧ ∀ t, t < (g.moves.getD j []).length → w'.cell? ⟨b, off + t, none⟩ = some (.int .i64 ((g.moves.getD j []).getD t 0))
theorem rows_of {g : P.G} (hr : g.Right) {w : World} {n bc_ oc : Nat} (hn : g.owner.length = n) (h : ∀ w', Below w.heap.size w w' → ∀ j, j < n → ∃ x, w'.cell? ⟨bc_, oc + j, none⟩ = some x ∧ Ints w' x (g.moves.getD j [])) : Rows g w n bc_ oc := by
  intro j hj
  obtain ⟨x, hx, hi⟩ := h w (Below.refl _ _) j hj
  obtain ⟨ao, k, rfl, -, hc⟩ := hi
  obtain ⟨b, off, rfl, hb, hc⟩ := hc.resolve_left (hr.at j (by omega)).2.2.2.1
  refine ⟨b, off, k, fun w' hw => ⟨?_, fun t ht => ?_⟩⟩
  · rw [hw.cell (p := ⟨bc_, oc + j, none⟩) (cell_lt hx)]
    exact hx
  · rw [hw.cell (p := ⟨b, off + t, none⟩) hb]
    exact hc t ht

set_option maxRecDepth 100000 in
set_option maxHeartbeats 1000000 in
theorem walk_any (g : P.G) (hr : g.Right) (wb w0 : World) (N n qg qm qw qo pm ba oa ka bb ob kb bc_ oc kc : Nat) (hn : g.owner.length = n)
    (hcc : Rows g wb n bc_ oc)
    (hlow : wb.heap.size ≤ qg ∧ wb.heap.size ≤ qo ∧ wb.heap.size ≤ pm) (hN : qg < N ∧ qm < N ∧ qw < N ∧ qo < N ∧ pm < N)
    (hd1 : qg ≠ pm ∧ qm ≠ pm ∧ qw ≠ pm ∧ qo ≠ pm) (hd2 : qg ≠ qo ∧ qm ≠ qo ∧ qw ≠ qo) :
    ∀ (u i : Nat) (M : Nat → Bool) (O : List Nat) (w : World), P.unmet M n ≤ u → i < n → O.length + P.unmet M n ≤ n → Wm wb w0 N n qg qm qw qo pm #[.slice (some ⟨ba, oa, none⟩) n ka, .slice (some ⟨bb, ob, none⟩) n kb, .slice (some ⟨bc_, oc, none⟩) n kc] M O w →
    Calls Try.prog 59 #[.int .i64 (i : Int), .pointer (some ⟨qm, 0, none⟩), .pointer (some ⟨qg, 0, none⟩), .pointer (some ⟨qw, 0, none⟩), .pointer (some ⟨qo, 0, none⟩)] w fun e w' => e = .returned (.tuple #[]) ∧ ∃ M' X, P.Ext n M X M' ∧ M' i = true ∧ Wm wb w0 N n qg qm qw qo pm #[.slice (some ⟨ba, oa, none⟩) n ka, .slice (some ⟨bb, ob, none⟩) n kb, .slice (some ⟨bc_, oc, none⟩) n kc] M' (O ++ X) w' := by
  have HR := Lib.hid hr
  have HNN := Lib.hid hn
  have HCC := Lib.hid hcc
  have HLO := Lib.hid hlow
  have HBN := Lib.hid hN
  have HD1 := Lib.hid hd1
  have HD2 := Lib.hid hd2
  have hmany := hr.many
  rw [hn] at hmany
  clear hr hn hcc hlow hN hd1 hd2
  intro u
  induction u with
  | zero =>
    intro i M O w hu hi hcap h
    have hM := P.unmet_zero (M := M) (n := n) (by omega) hi
    refine (walk_met wb w0 w N n qg qm qw qo pm _ M O h i hi hM).mono ?_
    rintro e w' ⟨rfl, rfl⟩
    exact ⟨rfl, M, [], P.Ext.nil n M, hM, by rw [List.append_nil]; exact h⟩
  | succ u ih =>
    intro i M O w hu hi hcap h
    by_cases hM : M i = true
    · refine (walk_met wb w0 w N n qg qm qw qo pm _ M O h i hi hM).mono ?_
      rintro e w' ⟨rfl, rfl⟩
      exact ⟨rfl, M, [], P.Ext.nil n M, hM, by rw [List.append_nil]; exact h⟩
    have hMf : M i = false := by simpa using hM
    have hum := P.unmet_mark hMf n hi
    have h1 := h.mark HLO.out.2.2 HD1.out.1 HD1.out.2.1 HD1.out.2.2.1 HD1.out.2.2.2 HBN.out.2.2.2.2 i
    have hi0 : (0 : Int) ≤ (i : Int) := Int.natCast_nonneg _
    have hii : (i : Int) < (n : Int) := by omega
    have c0 := h.mbox.cell 0 _ rfl
    have c1 := h.met.cell i _ (bl_at hi)
    rw [hMf] at c1
    have f1 := h.met.frozen i
    have IH := Lib.hid ih
    have HMF := Lib.hid hMf
    obtain ⟨bm, om, mk, hrow⟩ := HCC.out i hi
    have hin := HR.out.moves_in (i := i) (by rw [HNN.out]; exact hi)
    have hlen : (g.moves.getD i []).length ≤ 200 := P.rise_len (by have := (HR.out.at i (by rw [HNN.out]; exact hi)).2.2.2.2; rw [HNN.out] at this; exact this) hmany
    obtain ⟨ms, hms⟩ : ∃ ms, g.moves.getD i [] = ms := ⟨_, rfl⟩
    rw [hms] at hrow hin hlen
    have hcx := (hrow _ h1.low).1
    have HROW := Lib.hid hrow
    clear hrow hms
    have g2 := h1.gbox.cell 2 _ rfl
    have H1 := Lib.hid h1
    have HIN := Lib.hid hin
    have HUM := Lib.hid hum
    have HU := Lib.hid hu
    have HCAP := Lib.hid hcap
    have LOW0 := Lib.hid h.low
    clear h h1 hum hu hcap ih hM hMf hin
    rw [HNN.out] at HIN
    go_enter Try.func59, Try.ntmps59
    go_wp2_with fail
    clear c0 c1 f1 g2 hcx
    go_loopw [21] (fun jv wr => ∃ (j : Nat) (M' : Nat → Bool) (X : List Nat), j ≤ ms.length ∧ jv = .int .i64 (j : Int) ∧ P.Ext n (P.mark M i) X M' ∧ Wm wb w0 N n qg qm qw qo pm #[.slice (some ⟨ba, oa, none⟩) n ka, .slice (some ⟨bb, ob, none⟩) n kb, .slice (some ⟨bc_, oc, none⟩) n kc] M' (O ++ X) wr) (fun jv _ => ms.length - (intOf jv).toNat)
    case atStart => exact ⟨0, P.mark M i, [], Nat.zero_le _, rfl, P.Ext.nil _ _, by rw [List.append_nil]; exact H1.out⟩
    case round =>
      obtain ⟨j, M', X, hj, rfl, hext, hwm⟩ := hrel
      have hj0 : (0 : Int) ≤ (j : Int) := Int.natCast_nonneg _
      by_cases hlt : j < ms.length
      · have fj : decide ((j : Int) < (ms.length : Int)) = true := decide_eq_true (by omega)
        have hji : (j : Int) < (ms.length : Int) := by omega
        have hcell := (HROW.out wr hwm.low).2 j hlt
        have hmb := HIN.out (ms.getD j 0) (by rw [List.getD_eq_getElem?_getD, List.getElem?_eq_getElem hlt]; exact List.getElem_mem hlt)
        obtain ⟨mz, hmz⟩ : ∃ mz, ms.getD j 0 = mz := ⟨_, rfl⟩
        rw [hmz] at hcell hmb
        obtain ⟨mn, rfl⟩ := Int.eq_ofNat_of_zero_le (show 0 ≤ mz by omega)
        have hmn : mn < n := by omega
        have cw := hwm.wbox.cell 0 _ rfl
        have HX := Lib.hid hext
        have HWM := Lib.hid hwm
        have HMN := Lib.hid hmn
        clear hmz hmb hext hwm hmn
        go_wp2_with fail
        refine (IH.out mn M' (O ++ X) wr (by have := HX.out.cap; have := HUM.out; have := HU.out; omega) HMN.out (by have := HX.out.cap; have := HUM.out; have := HCAP.out; rw [List.length_append]; omega) HWM.out).mono ?_
        rintro e w2 ⟨rfl, M2, Y, hext2, -, hwm2⟩
        rw [List.append_assoc] at hwm2
        have HREL := Lib.hid (And.intro (HX.out.trans hext2) hwm2)
        clear hext2 hwm2 cw hcell
        go_wp2_with fail
        go_roundw
        case rel => exact ⟨j + 1, M2, X ++ Y, by omega, by first | rfl | go_num, HREL.out.1, HREL.out.2⟩
        case measure => simp [intOf]; omega
      · have fj : decide ((j : Int) < (ms.length : Int)) = false := decide_eq_false (by omega)
        obtain ⟨qv, hob, how⟩ := hwm.obox
        have hlen2 : (O ++ X).length ≤ 200 := by
          have := hext.cap
          have := HUM.out
          have := HCAP.out
          rw [List.length_append]
          omega
        have co := hob.cell 0 _ rfl
        have HOB := Lib.hid hob
        have HOW := Lib.hid how
        have HX := Lib.hid hext
        have HWM := Lib.hid hwm
        have HBIG := Lib.hid hwm.big
        have HL2 := Lib.hid hlen2
        clear hob how hext hwm
        go_wp2_with (at_builtin; refine wpl_append elInt rfl (.tmp 29) (.tmp 31) rfl rfl (own_grown HOW.out (World.grownBy_alloc _ _ none)) rfl (row_one _ _ _) ?_ ?_ ?_ ?_ ?_)
        · intro u hu; simp at hu; subst hu; rfl
        · simp; have := HL2.out; simp at this; omega
        · simp; have := HL2.out; simp at this; omega
        · have := HBIG.out; simp; omega
        intro v' w7 hown hgr hat
        obtain ⟨vo1, vk1, rfl, -⟩ := own_at hown
        have hown2 : w7.ownsRow N 3 1 (.slice vo1 ((O ++ X).length + 1) vk1) ((O ++ X).length + 1) (nv (O ++ X) ++ [.int .i64 (i : Int)]) := by simpa using hown
        have hbq : Box w7 qo 30 #[qv] := (HOB.out.alloc _).grown hgr (fun e => by have h1 := (own_lt HOW.out qo e.symm).1; have h2 := HBN.out.2.2.2.1; omega)
        have c7 := hbq.cell 0 _ rfl
        have f7 := hbq.frozen 0
        have hpush := HWM.out.push HLO.out.2.1 HBN.out.2.2.2.1 HBN.out.2.2.2.2 HD2.out.1 HD2.out.2.1 HD2.out.2.2 (fun e => HD1.out.2.2.2 e.symm) HBN.out.1 HBN.out.2.1 HBN.out.2.2.1 (by have h1 := HLO.out.1; have h2 := HBN.out.1; omega) HOW.out HOB.out hgr hown2
        have HP := Lib.hid hpush
        clear hown hgr hat hown2 hbq hpush
        go_wp2_with fail
        clear c7 f7
        go_end0
        refine ⟨rfl, M', X ++ [i], HX.out.done hi HMF.out, ?_, ?_⟩
        · exact (HX.out.eq i).2 (.inl (P.mark_self M i))
        · have := HP.out
          rw [List.append_assoc, List.length_append] at this
          exact this
end W
end Go.Proofs.Yteeaojciobmcaaa
