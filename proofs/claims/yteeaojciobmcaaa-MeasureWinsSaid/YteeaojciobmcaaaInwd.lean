/- The order in which positions are lifted: the program's walk. The order in which positions are lifted. -/
import Derived.Test.YteeaojciobmcaaaMea
import Derived.Test.YteeaojciobmcaaaGrowR
import Derived.Test.YteeaojciobmcaaaHep
import Derived.Test.YteeaojciobmcaaaPts
import Derived.Deep.Cut
import Derived.Lib.Hide
import Derived.Deep.QuietTactic
import Derived.BigQuiet
import Derived.Laws.EntriesVeiled
section
namespace Go.Proofs.Yteeaojciobmcaaa
open Go.RowKit
namespace W

/-- Bools of a function, n of them. -/
def bl (n : Nat) (M : Nat → Bool) : Array Value := ((List.range n).map fun i => Value.bool (M i)).toArray
theorem bl_at {n : Nat} {M : Nat → Bool} {i : Nat} (hi : i < n) : (bl n M)[i]? = some (.bool (M i)) := by
  unfold bl
  simp [hi]
theorem bl_set {n : Nat} {M : Nat → Bool} (i : Nat) (b : Bool) : (bl n M).setIfInBounds i (.bool b) = bl n (fun y => if y = i then b else M y) := by
  unfold bl
  apply Array.ext_getElem?
  intro j
  simp only [Array.getElem?_setIfInBounds, List.getElem?_toArray, List.getElem?_map]
  by_cases hj : j < n
  · rw [List.getElem?_range hj]
    by_cases e : i = j
    · subst e
      simp [hj]
    · rw [if_neg e, Option.map_some, Option.map_some, if_neg (fun h => e h.symm)]
  · rw [List.getElem?_eq_none (by simp; omega)]
    split
    · rw [if_neg (by simp; omega)]
      rfl
    · rfl
/-- Numbers as values. -/
def nv (O : List Nat) : List Value := O.map fun (x : Nat) => Value.int .i64 (x : Int)
/-- What the walk keeps in memory. -/
structure Wm (wb w0 : World) (N n qg qm qw qo pm : Nat) (gv : Array Value) (M : Nat → Bool) (O : List Nat) (w : World) : Prop where
  gbox : Box w qg 33 gv
  mbox : Box w qm 71 #[.slice (some ⟨pm, 0, none⟩) n n]
  wbox : Box w qw 89 #[.func (.func 59) #[] #[.pointer (some ⟨qm, 0, none⟩), .pointer (some ⟨qg, 0, none⟩), .pointer (some ⟨qw, 0, none⟩), .pointer (some ⟨qo, 0, none⟩)]]
  obox : ∃ qv, Box w qo 30 #[qv] ∧ w.ownsRow N 3 1 qv O.length (nv O)
  met : Box w pm 4 (bl n M)
  low : Below wb.heap.size wb w
  keep : Rk.Keeps (KX N [qo, pm]) w0 w
  big : N ≤ w.heap.size
section
variable {wb w0 w : World} {N n qg qm qw qo pm : Nat} {gv : Array Value} {M : Nat → Bool} {O : List Nat}
theorem Wm.mark (h : Wm wb w0 N n qg qm qw qo pm gv M O w) (hb : wb.heap.size ≤ pm) (h1 : qg ≠ pm) (h2 : qm ≠ pm) (h3 : qw ≠ pm) (h4 : qo ≠ pm) (h5 : pm < N) (i : Nat) : Wm wb w0 N n qg qm qw qo pm gv (P.mark M i) O (w.setCell ⟨pm, i, none⟩ (.bool true)) where
  gbox := h.gbox.far h1 _
  mbox := h.mbox.far h2 _
  wbox := h.wbox.far h3 _
  obox := by
    obtain ⟨qv, h6, h7⟩ := h.obox
    exact ⟨qv, h6.far h4 _, own_kept h7 (grown_set w ⟨pm, i, none⟩ _) (.inr fun e => by have := (own_lt h7 pm e).1; omega)⟩
  met := by
    have := h.met.set i (.bool true)
    rw [bl_set] at this
    exact this
  low := h.low.setCell hb _
  keep := h.keep.trans (kx_set w (.inl (by simp)) i _)
  big := by have := h.big; simp [World.setCell]; exact this

theorem Wm.push (h : Wm wb w0 N n qg qm qw qo pm gv M O w) (hw0 : wb.heap.size ≤ qo) (hN : qo < N) (hp : pm < N) (h1 : qg ≠ qo) (h2 : qm ≠ qo) (h3 : qw ≠ qo) (h4 : pm ≠ qo) (hg : qg < N) (hm : qm < N) (hw : qw < N) (hbN : wb.heap.size ≤ N)
    {qv v' : Value} {u : Obj} {w7 : World} (ho : w.ownsRow N 3 1 qv O.length (nv O)) (hbx : Box w qo 30 #[qv]) {x : Nat} (hgr : (w.alloc u).grownBy w7 qv.ownBlock) (hown : w7.ownsRow N 3 1 v' (O.length + 1) (nv O ++ [.int .i64 (x : Int)])) :
    Wm wb w0 N n qg qm qw qo pm gv M (O ++ [x]) (w7.setCell ⟨qo, 0, none⟩ v') := by
  have hN0 : ∀ b, qv.ownBlock = some b → N ≤ b := fun b hb => (own_lt ho b hb).1
  have far : ∀ q, q < N → some q ≠ qv.ownBlock := fun q hq e => by have := hN0 q e.symm; omega
  have hal := World.grownBy_alloc w u none
  have hk1 : Rk.Keeps (KX N [qo, pm]) w (w.alloc u) := kx_grown hal (fun k e => by cases e)
  have hk2 : Rk.Keeps (KX N [qo, pm]) (w.alloc u) w7 := kx_grown hgr (fun k e => .inr (hN0 k e))
  refine ⟨(((h.gbox.alloc u).grown hgr (far _ hg)).far h1 _), (((h.mbox.alloc u).grown hgr (far _ hm)).far h2 _), (((h.wbox.alloc u).grown hgr (far _ hw)).far h3 _), ⟨v', ?_, ?_⟩, (((h.met.alloc u).grown hgr (far _ hp)).far h4 _), ?_, ?_, ?_⟩
  · have := ((hbx.alloc u).grown hgr (far _ hN)).set 0 v'
    exact this
  · have e : nv (O ++ [x]) = nv O ++ [.int .i64 (x : Int)] := by unfold nv; rw [List.map_append]; rfl
    rw [e, List.length_append]
    exact own_kept hown (grown_set w7 ⟨qo, 0, none⟩ _) (.inr fun e => by have := (own_lt hown qo e).1; omega)
  · have h5 := h.low.trans (((Below.refl wb.heap.size w).alloc h.low.size u).grown hgr (by have := h.low.size; simp; omega) (fun k e => Nat.le_trans hbN (hN0 k e)))
    exact h5.setCell hw0 _
  · exact ((h.keep.trans hk1).trans hk2).trans (kx_set w7 (.inl (by simp)) 0 _)
  · have := h.big
    have := hgr.size
    simp [World.setCell] at this ⊢
    omega
end

set_option maxRecDepth 100000 in
set_option maxHeartbeats 1000000 in
theorem walk_met (wb w0 w : World) (N n qg qm qw qo pm : Nat) (gv : Array Value) (M : Nat → Bool) (O : List Nat) (h : Wm wb w0 N n qg qm qw qo pm gv M O w) (i : Nat) (hi : i < n) (hM : M i = true) :
    Calls Try.prog 59 #[.int .i64 (i : Int), .pointer (some ⟨qm, 0, none⟩), .pointer (some ⟨qg, 0, none⟩), .pointer (some ⟨qw, 0, none⟩), .pointer (some ⟨qo, 0, none⟩)] w fun e w' => e = .returned (.tuple #[]) ∧ w' = w := by
  have hi0 : (0 : Int) ≤ (i : Int) := Int.natCast_nonneg _
  have hii : (i : Int) < (n : Int) := by omega
  have c0 := h.mbox.cell 0 _ rfl
  have c1 := h.met.cell i _ (bl_at hi)
  rw [hM] at c1
  clear h
  go_enter Try.func59, Try.ntmps59
  go_wp2_with fail
  refine bodyPost_ret (results_none rfl _ _ _) rfl ?_
  exact ⟨rfl, rfl⟩

/-- The rows of moves, at any later world. -/
def Rows (g : P.G) (wb : World) (n bc_ oc : Nat) : Prop := ∀ j, j < n → ∃ b off k, ∀ w', Below wb.heap.size wb w' → w'.cell? ⟨bc_, oc + j, none⟩ = some (.slice (some ⟨b, off, none⟩) (g.moves.getD j []).length k) ∧ ∀ t, t < (g.moves.getD j []).length → w'.cell? ⟨b, off + t, none⟩ = some (.int .i64 ((g.moves.getD j []).getD t 0))
theorem rows_of {g : P.G} (hr : g.Right) {w : World} {n bc_ oc : Nat} (hn : g.owner.length = n) (h : ∀ w', Below w.heap.size w w' → ∀ j, j < n → ∃ x, w'.cell? ⟨bc_, oc + j, none⟩ = some x ∧ Ints w' x (g.moves.getD j [])) : Rows g w n bc_ oc := by
  intro j hj
  obtain ⟨x, hx, hi⟩ := h w (Below.refl _ _) j hj
  obtain ⟨ao, k, rfl, -, hc⟩ := hi
  obtain ⟨b, off, rfl, hb, hc⟩ := hc.resolve_left (hr.at j (by omega)).2.2.2.1
  refine ⟨b, off, k, fun w' hw => ⟨?_, fun t ht => ?_⟩⟩
  · rw [hw.cell (p := ⟨bc_, oc + j, none⟩) (cell_lt hx)]
    exact hx
  · rw [hw.cell (p := ⟨b, off + t, none⟩) hb]
    exact hc t ht

set_option maxRecDepth 100000 in
set_option maxHeartbeats 1000000 in
theorem walk_any (g : P.G) (hr : g.Right) (wb w0 : World) (N n qg qm qw qo pm ba oa ka bb ob kb bc_ oc kc : Nat) (hn : g.owner.length = n)
    (hcc : Rows g wb n bc_ oc)
    (hlow : wb.heap.size ≤ qg ∧ wb.heap.size ≤ qo ∧ wb.heap.size ≤ pm) (hN : qg < N ∧ qm < N ∧ qw < N ∧ qo < N ∧ pm < N)
    (hd1 : qg ≠ pm ∧ qm ≠ pm ∧ qw ≠ pm ∧ qo ≠ pm) (hd2 : qg ≠ qo ∧ qm ≠ qo ∧ qw ≠ qo) :
    ∀ (u i : Nat) (M : Nat → Bool) (O : List Nat) (w : World), P.unmet M n ≤ u → i < n → O.length + P.unmet M n ≤ n → Wm wb w0 N n qg qm qw qo pm #[.slice (some ⟨ba, oa, none⟩) n ka, .slice (some ⟨bb, ob, none⟩) n kb, .slice (some ⟨bc_, oc, none⟩) n kc] M O w →
    Calls Try.prog 59 #[.int .i64 (i : Int), .pointer (some ⟨qm, 0, none⟩), .pointer (some ⟨qg, 0, none⟩), .pointer (some ⟨qw, 0, none⟩), .pointer (some ⟨qo, 0, none⟩)] w fun e w' => e = .returned (.tuple #[]) ∧ ∃ M' X, P.Ext n M X M' ∧ M' i = true ∧ Wm wb w0 N n qg qm qw qo pm #[.slice (some ⟨ba, oa, none⟩) n ka, .slice (some ⟨bb, ob, none⟩) n kb, .slice (some ⟨bc_, oc, none⟩) n kc] M' (O ++ X) w' := by
  have HR := Lib.hid hr
  have HNN := Lib.hid hn
  have HCC := Lib.hid hcc
  have HLO := Lib.hid hlow
  have HBN := Lib.hid hN
  have HD1 := Lib.hid hd1
  have HD2 := Lib.hid hd2
  have hmany := hr.many
  rw [hn] at hmany
  clear hr hn hcc hlow hN hd1 hd2
  intro u
  induction u with
  | zero =>
    intro i M O w hu hi hcap h
    have hM := P.unmet_zero (M := M) (n := n) (by omega) hi
    refine (walk_met wb w0 w N n qg qm qw qo pm _ M O h i hi hM).mono ?_
    rintro e w' ⟨rfl, rfl⟩
    exact ⟨rfl, M, [], P.Ext.nil n M, hM, by rw [List.append_nil]; exact h⟩
  | succ u ih =>
    intro i M O w hu hi hcap h
    by_cases hM : M i = true
    · refine (walk_met wb w0 w N n qg qm qw qo pm _ M O h i hi hM).mono ?_
      rintro e w' ⟨rfl, rfl⟩
      exact ⟨rfl, M, [], P.Ext.nil n M, hM, by rw [List.append_nil]; exact h⟩
    have hMf : M i = false := by simpa using hM
    have hum := P.unmet_mark hMf n hi
    have h1 := h.mark HLO.out.2.2 HD1.out.1 HD1.out.2.1 HD1.out.2.2.1 HD1.out.2.2.2 HBN.out.2.2.2.2 i
    have hi0 : (0 : Int) ≤ (i : Int) := Int.natCast_nonneg _
    have hii : (i : Int) < (n : Int) := by omega
    have c0 := h.mbox.cell 0 _ rfl
    have c1 := h.met.cell i _ (bl_at hi)
    rw [hMf] at c1
    have f1 := h.met.frozen i
    have IH := Lib.hid ih
    have HMF := Lib.hid hMf
    obtain ⟨bm, om, mk, hrow⟩ := HCC.out i hi
    have hin := HR.out.moves_in (i := i) (by rw [HNN.out]; exact hi)
    have hlen : (g.moves.getD i []).length ≤ 200 := P.rise_len (by have := (HR.out.at i (by rw [HNN.out]; exact hi)).2.2.2.2; rw [HNN.out] at this; exact this) hmany
    obtain ⟨ms, hms⟩ : ∃ ms, g.moves.getD i [] = ms := ⟨_, rfl⟩
    rw [hms] at hrow hin hlen
    have hcx := (hrow _ h1.low).1
    have HROW := Lib.hid hrow
    clear hrow hms
    have g2 := h1.gbox.cell 2 _ rfl
    have H1 := Lib.hid h1
    have HIN := Lib.hid hin
    have HUM := Lib.hid hum
    have HU := Lib.hid hu
    have HCAP := Lib.hid hcap
    have LOW0 := Lib.hid h.low
    clear h h1 hum hu hcap ih hM hMf hin
    rw [HNN.out] at HIN
    go_enter Try.func59, Try.ntmps59
    go_wp2_with fail
    clear c0 c1 f1 g2 hcx
    go_loopw [21] (fun jv wr => ∃ (j : Nat) (M' : Nat → Bool) (X : List Nat), j ≤ ms.length ∧ jv = .int .i64 (j : Int) ∧ P.Ext n (P.mark M i) X M' ∧ Wm wb w0 N n qg qm qw qo pm #[.slice (some ⟨ba, oa, none⟩) n ka, .slice (some ⟨bb, ob, none⟩) n kb, .slice (some ⟨bc_, oc, none⟩) n kc] M' (O ++ X) wr) (fun jv _ => ms.length - (intOf jv).toNat)
    case atStart => exact ⟨0, P.mark M i, [], Nat.zero_le _, rfl, P.Ext.nil _ _, by rw [List.append_nil]; exact H1.out⟩
    case round =>
      obtain ⟨j, M', X, hj, rfl, hext, hwm⟩ := hrel
      have hj0 : (0 : Int) ≤ (j : Int) := Int.natCast_nonneg _
      by_cases hlt : j < ms.length
      · have fj : decide ((j : Int) < (ms.length : Int)) = true := decide_eq_true (by omega)
        have hji : (j : Int) < (ms.length : Int) := by omega
        have hcell := (HROW.out wr hwm.low).2 j hlt
        have hmb := HIN.out (ms.getD j 0) (by rw [List.getD_eq_getElem?_getD, List.getElem?_eq_getElem hlt]; exact List.getElem_mem hlt)
        obtain ⟨mz, hmz⟩ : ∃ mz, ms.getD j 0 = mz := ⟨_, rfl⟩
        rw [hmz] at hcell hmb
        obtain ⟨mn, rfl⟩ := Int.eq_ofNat_of_zero_le (show 0 ≤ mz by omega)
        have hmn : mn < n := by omega
        have cw := hwm.wbox.cell 0 _ rfl
        have HX := Lib.hid hext
        have HWM := Lib.hid hwm
        have HMN := Lib.hid hmn
        clear hmz hmb hext hwm hmn
        go_wp2_with fail
        refine (IH.out mn M' (O ++ X) wr (by have := HX.out.cap; have := HUM.out; have := HU.out; omega) HMN.out (by have := HX.out.cap; have := HUM.out; have := HCAP.out; rw [List.length_append]; omega) HWM.out).mono ?_
        rintro e w2 ⟨rfl, M2, Y, hext2, -, hwm2⟩
        rw [List.append_assoc] at hwm2
        have HREL := Lib.hid (And.intro (HX.out.trans hext2) hwm2)
        clear hext2 hwm2 cw hcell
        go_wp2_with fail
        go_roundw
        case rel => exact ⟨j + 1, M2, X ++ Y, by omega, by first | rfl | go_num, HREL.out.1, HREL.out.2⟩
        case measure => simp [intOf]; omega
      · have fj : decide ((j : Int) < (ms.length : Int)) = false := decide_eq_false (by omega)
        obtain ⟨qv, hob, how⟩ := hwm.obox
        have hlen2 : (O ++ X).length ≤ 200 := by
          have := hext.cap
          have := HUM.out
          have := HCAP.out
          rw [List.length_append]
          omega
        have co := hob.cell 0 _ rfl
        have HOB := Lib.hid hob
        have HOW := Lib.hid how
        have HX := Lib.hid hext
        have HWM := Lib.hid hwm
        have HBIG := Lib.hid hwm.big
        have HL2 := Lib.hid hlen2
        clear hob how hext hwm
        go_wp2_with (at_builtin; refine wpl_append elInt rfl (.tmp 29) (.tmp 31) rfl rfl (own_grown HOW.out (World.grownBy_alloc _ _ none)) rfl (row_one _ _ _) ?_ ?_ ?_ ?_ ?_)
        · intro u hu; simp at hu; subst hu; rfl
        · simp; have := HL2.out; simp at this; omega
        · simp; have := HL2.out; simp at this; omega
        · have := HBIG.out; simp; omega
        intro v' w7 hown hgr hat
        obtain ⟨vo1, vk1, rfl, -⟩ := own_at hown
        have hown2 : w7.ownsRow N 3 1 (.slice vo1 ((O ++ X).length + 1) vk1) ((O ++ X).length + 1) (nv (O ++ X) ++ [.int .i64 (i : Int)]) := by simpa using hown
        have hbq : Box w7 qo 30 #[qv] := (HOB.out.alloc _).grown hgr (fun e => by have h1 := (own_lt HOW.out qo e.symm).1; have h2 := HBN.out.2.2.2.1; omega)
        have c7 := hbq.cell 0 _ rfl
        have f7 := hbq.frozen 0
        have hpush := HWM.out.push HLO.out.2.1 HBN.out.2.2.2.1 HBN.out.2.2.2.2 HD2.out.1 HD2.out.2.1 HD2.out.2.2 (fun e => HD1.out.2.2.2 e.symm) HBN.out.1 HBN.out.2.1 HBN.out.2.2.1 (by have h1 := HLO.out.1; have h2 := HBN.out.1; omega) HOW.out HOB.out hgr hown2
        have HP := Lib.hid hpush
        clear hown hgr hat hown2 hbq hpush
        go_wp2_with fail
        clear c7 f7
        go_end0
        refine ⟨rfl, M', X ++ [i], HX.out.done hi HMF.out, ?_, ?_⟩
        · exact (HX.out.eq i).2 (.inl (P.mark_self M i))
        · have := HP.out
          rw [List.append_assoc, List.length_append] at this
          exact this
end W
end Go.Proofs.Yteeaojciobmcaaa
end
section
namespace Go.Proofs.Yteeaojciobmcaaa
open Go.RowKit
namespace W

theorem info_bool : (Try.prog.info? 4).map (fun i => (i.zero, i.size, i.bytes)) = some (some (.bool false), 1, 1) := by kernel_rfl
theorem elBool : El 4 71 (.bool false) 1 := ⟨Try.underlying71, by obtain ⟨i, h, h0, h1, h2⟩ := info_parts info_bool; exact ⟨i, h, h0, h1, h2⟩, rfl⟩
/-- make, the world spelled out. -/
theorem wpl_made {e sl : TypeId} {z : Value} {bytes : Nat} (E : El e sl z bytes) {w : World} {ops : Array Oper} {rest : List Oper} {o : Oper} {a : Act} {Q : Exit → Act → World → Prop} (hgd : o.guard = none) (s x : Operand)
    (ho : o.op = .makeSlice sl s x) (n : Nat) (hs : a.eval s = .int .i64 n) (hx : a.eval x = .int .i64 n) (hb : bytes * n ≤ 281474976710656) (hn : n ≤ 9223372036854775807)
    (h : ∀ w', w' = Made w e z n → wpList Try.prog ops Q rest (a.put o.dst (.slice (some ⟨w.heap.size, 0, none⟩) n n)) w') : wpList Try.prog ops Q (o :: rest) a w := by
  have hrun := run_make1 E n hb hn w
  refine wpList_plain hgd fun _ hK => ?_
  unfold Oper.wp execOp
  simp only [ho, hs, hx, Sem.run_bind, Sem.run_pure, hrun, Result.andThen_ok]
  exact hK _ _ (h _ rfl)
theorem made_bl (n : Nat) : madeCells #[Value.bool false] n = bl n (fun _ => false) := by
  apply Array.ext'
  rw [toList_madeCells_one]
  unfold bl
  apply List.ext_getElem (by simp)
  intro i h1 h2
  simp
theorem made_box (w : World) (e : TypeId) (z : Value) (n : Nat) : Box (Made w e z n) w.heap.size e (madeCells #[z] n) := Box.new w e _
/-- An order of all positions. -/
def Order (n : Nat) (O : List Nat) : Prop := O.Nodup ∧ ∀ x, x ∈ O ↔ x < n
set_option maxRecDepth 100000 in
set_option maxHeartbeats 1000000 in
theorem inward_any (g : P.G) (hr : g.Right) (v : Value) (w : World) (hv : GameV w v g) :
    Calls Try.prog 54 #[v] w fun e w' => ∃ v' O, e = .returned v' ∧ Order g.owner.length O ∧ w'.ownsRow w.heap.size 3 1 v' O.length (nv O) ∧ Below w.heap.size w w' := by
  have hop := hr.prio
  have hmp := hr.moves
  have hmany := hr.many
  have h0 := hr.pos
  obtain ⟨n, hn⟩ : ∃ n, g.owner.length = n := ⟨_, rfl⟩
  rw [hn] at hop hmp hmany h0
  obtain ⟨ba, oa, ka, bb, ob, kb, bc_, oc, kc, rfl, -, -, hcc⟩ := hv.open_ hn hop hmp h0
  have hrow := rows_of hr hn hcc
  have HROW := Lib.hid hrow
  have HR := Lib.hid hr
  have HN := Lib.hid hn
  clear hcc hr hn hop hmp hv hrow
  have hmf : ∀ (fn : Fn) (first cap : Array Value) (w : World), (Instr.makeFunc fn first cap).run Try.prog w = .ok (.func fn first cap) w := fun _ _ _ _ => rfl
  go_enter Try.func54, Try.ntmps54
  go_wp2_with (refine wpl_made elBool rfl (.tmp 9) (.tmp 9) rfl n rfl rfl (by omega) (by omega) ?_; intro w7 hw7; have g0 : ((w7.alloc (.cells #[.slice (some ⟨w.heap.size + 1 + 1, 0, none⟩) n n] 71)).alloc (.cells #[.func (.func 59) #[] #[.pointer (some ⟨w7.heap.size, 0, none⟩), .pointer (some ⟨w.heap.size, 0, none⟩), .pointer (some ⟨w7.heap.size + 1, 0, none⟩), .pointer (some ⟨w.heap.size + 1, 0, none⟩)]] 89)).cell? ⟨w.heap.size, 0, none⟩ = some (.slice (some ⟨ba, oa, none⟩) n ka) := (by rw [hw7]; exact (((((Box.new w 33 #[.slice (some ⟨ba, oa, none⟩) n ka, .slice (some ⟨bb, ob, none⟩) n kb, .slice (some ⟨bc_, oc, none⟩) n kc]).alloc _).alloc _).alloc _).alloc _).cell 0 _ rfl); have HW7 := Lib.hid hw7; clear hw7)
  clear g0
  have hw7 := HW7.out
  clear HW7
  have hbw : Below w.heap.size w ((w.alloc (.cells #[.slice (some ⟨ba, oa, none⟩) n ka, .slice (some ⟨bb, ob, none⟩) n kb, .slice (some ⟨bc_, oc, none⟩) n kc] 33)).alloc (.cells #[.slice none 0 0] 30)) := ((Below.refl _ w).alloc (Nat.le_refl _) _).alloc (by simp) _
  have hbg : Box w7 w.heap.size 33 #[.slice (some ⟨ba, oa, none⟩) n ka, .slice (some ⟨bb, ob, none⟩) n kb, .slice (some ⟨bc_, oc, none⟩) n kc] := by rw [hw7]; exact ((Box.new w _ _).alloc _).alloc _
  have hbo : Box w7 (w.heap.size + 1) 30 #[.slice none 0 0] := by
    rw [hw7]
    have := Box.new (w.alloc (.cells #[.slice (some ⟨ba, oa, none⟩) n ka, .slice (some ⟨bb, ob, none⟩) n kb, .slice (some ⟨bc_, oc, none⟩) n kc] 33)) 30 #[.slice none 0 0]
    exact (by simpa using this : Box _ (w.heap.size + 1) 30 #[.slice none 0 0]).alloc _
  have hbp : Box w7 (w.heap.size + 1 + 1) 4 (bl n (fun _ => false)) := by
    rw [hw7, ← made_bl]
    have := made_box ((w.alloc (.cells #[.slice (some ⟨ba, oa, none⟩) n ka, .slice (some ⟨bb, ob, none⟩) n kb, .slice (some ⟨bc_, oc, none⟩) n kc] 33)).alloc (.cells #[.slice none 0 0] 30)) 4 (.bool false) n
    simpa using this
  have hs7 : w7.heap.size = w.heap.size + 3 := by rw [hw7]; unfold Made; simp
  have hb7 : Below w.heap.size w w7 := by rw [hw7]; exact hbw.alloc (by simp; omega) _
  clear hw7 hbw
  have hbm : Box ((w7.alloc (.cells #[.slice (some ⟨w.heap.size + 1 + 1, 0, none⟩) n n] 71)).alloc (.cells #[.func (.func 59) #[] #[.pointer (some ⟨w7.heap.size, 0, none⟩), .pointer (some ⟨w.heap.size, 0, none⟩), .pointer (some ⟨w7.heap.size + 1, 0, none⟩), .pointer (some ⟨w.heap.size + 1, 0, none⟩)]] 89)) w7.heap.size 71 #[.slice (some ⟨w.heap.size + 1 + 1, 0, none⟩) n n] := (Box.new w7 _ _).alloc _
  have hbw : Box ((w7.alloc (.cells #[.slice (some ⟨w.heap.size + 1 + 1, 0, none⟩) n n] 71)).alloc (.cells #[.func (.func 59) #[] #[.pointer (some ⟨w7.heap.size, 0, none⟩), .pointer (some ⟨w.heap.size, 0, none⟩), .pointer (some ⟨w7.heap.size + 1, 0, none⟩), .pointer (some ⟨w.heap.size + 1, 0, none⟩)]] 89)) (w7.heap.size + 1) 89 #[.func (.func 59) #[] #[.pointer (some ⟨w7.heap.size, 0, none⟩), .pointer (some ⟨w.heap.size, 0, none⟩), .pointer (some ⟨w7.heap.size + 1, 0, none⟩), .pointer (some ⟨w.heap.size + 1, 0, none⟩)]] := by
    have := Box.new (w7.alloc (.cells #[.slice (some ⟨w.heap.size + 1 + 1, 0, none⟩) n n] 71)) 89 #[.func (.func 59) #[] #[.pointer (some ⟨w7.heap.size, 0, none⟩), .pointer (some ⟨w.heap.size, 0, none⟩), .pointer (some ⟨w7.heap.size + 1, 0, none⟩), .pointer (some ⟨w.heap.size + 1, 0, none⟩)]]
    simpa using this
  have hb8 : Below w.heap.size w ((w7.alloc (.cells #[.slice (some ⟨w.heap.size + 1 + 1, 0, none⟩) n n] 71)).alloc (.cells #[.func (.func 59) #[] #[.pointer (some ⟨w7.heap.size, 0, none⟩), .pointer (some ⟨w.heap.size, 0, none⟩), .pointer (some ⟨w7.heap.size + 1, 0, none⟩), .pointer (some ⟨w.heap.size + 1, 0, none⟩)]] 89)) := (hb7.alloc (by omega) _).alloc (by simp; omega) _
  have hs8 : ((w7.alloc (.cells #[.slice (some ⟨w.heap.size + 1 + 1, 0, none⟩) n n] 71)).alloc (.cells #[.func (.func 59) #[] #[.pointer (some ⟨w7.heap.size, 0, none⟩), .pointer (some ⟨w.heap.size, 0, none⟩), .pointer (some ⟨w7.heap.size + 1, 0, none⟩), .pointer (some ⟨w.heap.size + 1, 0, none⟩)]] 89)).heap.size = w7.heap.size + 2 := by simp
  have hbg := (hbg.alloc (.cells #[.slice (some ⟨w.heap.size + 1 + 1, 0, none⟩) n n] 71)).alloc (.cells #[.func (.func 59) #[] #[.pointer (some ⟨w7.heap.size, 0, none⟩), .pointer (some ⟨w.heap.size, 0, none⟩), .pointer (some ⟨w7.heap.size + 1, 0, none⟩), .pointer (some ⟨w.heap.size + 1, 0, none⟩)]] 89)
  have hbo := (hbo.alloc (.cells #[.slice (some ⟨w.heap.size + 1 + 1, 0, none⟩) n n] 71)).alloc (.cells #[.func (.func 59) #[] #[.pointer (some ⟨w7.heap.size, 0, none⟩), .pointer (some ⟨w.heap.size, 0, none⟩), .pointer (some ⟨w7.heap.size + 1, 0, none⟩), .pointer (some ⟨w.heap.size + 1, 0, none⟩)]] 89)
  have hbp := (hbp.alloc (.cells #[.slice (some ⟨w.heap.size + 1 + 1, 0, none⟩) n n] 71)).alloc (.cells #[.func (.func 59) #[] #[.pointer (some ⟨w7.heap.size, 0, none⟩), .pointer (some ⟨w.heap.size, 0, none⟩), .pointer (some ⟨w7.heap.size + 1, 0, none⟩), .pointer (some ⟨w.heap.size + 1, 0, none⟩)]] 89)
  generalize ((w7.alloc (.cells #[.slice (some ⟨w.heap.size + 1 + 1, 0, none⟩) n n] 71)).alloc (.cells #[.func (.func 59) #[] #[.pointer (some ⟨w7.heap.size, 0, none⟩), .pointer (some ⟨w.heap.size, 0, none⟩), .pointer (some ⟨w7.heap.size + 1, 0, none⟩), .pointer (some ⟨w.heap.size + 1, 0, none⟩)]] 89)) = w8 at hbg hbo hbp hbm hbw hb8 hs8 ⊢
  obtain ⟨qm, hqm⟩ : ∃ q, w7.heap.size = q := ⟨_, rfl⟩
  rw [hqm] at hbm hbw hs7 hs8 ⊢
  have HS7 := Lib.hid hs7
  have HS8 := Lib.hid hs8
  have HW0 := Lib.hid (show Wm w w8 (qm + 2) n w.heap.size qm (qm + 1) (w.heap.size + 1) (w.heap.size + 1 + 1) #[.slice (some ⟨ba, oa, none⟩) n ka, .slice (some ⟨bb, ob, none⟩) n kb, .slice (some ⟨bc_, oc, none⟩) n kc] (fun _ => false) [] w8 from
    ⟨hbg, hbm, hbw, ⟨_, hbo, World.ownsRow_nil _ _ _ _⟩, hbp, hb8, Rk.Keeps.refl _ _, by omega⟩)
  clear hbg hbo hbp hbm hbw hb8 hs7 hs8 hqm hb7
  go_loopw [15] (fun iv wr => ∃ (j : Nat) (M : Nat → Bool) (X : List Nat), j ≤ n ∧ iv = .int .i64 (j : Int) ∧ P.Ext n (fun _ => false) X M ∧ (∀ y, y < j → M y = true) ∧ Wm w w8 (qm + 2) n w.heap.size qm (qm + 1) (w.heap.size + 1) (w.heap.size + 1 + 1) #[.slice (some ⟨ba, oa, none⟩) n ka, .slice (some ⟨bb, ob, none⟩) n kb, .slice (some ⟨bc_, oc, none⟩) n kc] M X wr) (fun iv _ => n - (intOf iv).toNat)
  case atStart => exact ⟨0, fun _ => false, [], Nat.zero_le _, rfl, P.Ext.nil _ _, fun y hy => absurd hy (Nat.not_lt_zero y), HW0.out⟩
  case round =>
    obtain ⟨j, M, X, hj, rfl, hext, hall, hwm⟩ := hrel
    have hj0 : (0 : Int) ≤ (j : Int) := Int.natCast_nonneg _
    have HX := Lib.hid hext
    have HA := Lib.hid hall
    by_cases hlt : j < n
    · have fj : decide ((j : Int) < (n : Int)) = true := decide_eq_true (by omega)
      have cw := hwm.wbox.cell 0 _ rfl
      have HWM := Lib.hid hwm
      have HLT := Lib.hid hlt
      clear hext hall hwm hlt
      go_wp2_with fail
      refine (walk_any g HR.out w w8 (qm + 2) n w.heap.size qm (qm + 1) (w.heap.size + 1) (w.heap.size + 1 + 1) ba oa ka bb ob kb bc_ oc kc HN.out HROW.out ⟨by omega, by omega, by omega⟩ (by have := HS7.out; omega) (by have := HS7.out; omega) (by have := HS7.out; omega) (P.unmet M n) j M X wr (Nat.le_refl _) HLT.out (by have h1 := HX.out.cap; have h2 := P.unmet_le (fun _ => false) n; omega) HWM.out).mono ?_
      rintro e w2 ⟨rfl, M2, Y, hext2, hmj, hwm2⟩
      have HREL := Lib.hid (And.intro (HX.out.trans hext2) (And.intro (show ∀ y, y < j + 1 → M2 y = true from fun y hy => by
        by_cases e : y = j
        · rw [e]; exact hmj
        · exact (hext2.eq y).2 (.inl (HA.out y (by omega)))) hwm2))
      clear hext2 hmj hwm2 cw
      go_wp2_with fail
      go_roundw
      case rel => exact ⟨j + 1, M2, X ++ Y, by have := HLT.out; omega, by first | rfl | go_num, HREL.out.1, HREL.out.2.1, HREL.out.2.2⟩
      case measure => have := HLT.out; simp [intOf]; omega
    · have fj : decide ((j : Int) < (n : Int)) = false := decide_eq_false (by omega)
      have hjn : j = n := by omega
      obtain ⟨qv, hob, how⟩ := hwm.obox
      have co := hob.cell 0 _ rfl
      have HOW := Lib.hid how
      have HLW := Lib.hid hwm.low
      clear hext hall hwm hob how
      go_wp2_with fail
      go_ret
      refine ⟨_, X, rfl, ⟨HX.out.nodup, fun x => ⟨fun hx => ?_, fun hx => ?_⟩⟩, own_more HOW.out (by have := HS7.out; omega), HLW.out⟩
      · rw [HN.out]
        exact (HX.out.fresh x hx).1
      · rw [HN.out] at hx
        rcases (HX.out.eq x).1 (HA.out x (by omega)) with h | h
        · cases h
        · exact h
end W
end Go.Proofs.Yteeaojciobmcaaa
end
