/- The order in which positions are lifted. -/
import Derived.Test.YteeaojciobmcaaaInward
import Derived.Laws.EntriesVeiled
import Derived.Deep.Cut
import Derived.Lib.Hide
import Derived.Deep.QuietTactic
import Derived.BigQuiet
namespace Go.Proofs.Yteeaojciobmcaaa
open Go.RowKit
namespace W

theorem info_bool : (Try.prog.info? 4).map (fun i => (i.zero, i.size, i.bytes)) = some (some (.bool false), 1, 1) := by kernel_rfl
theorem elBool : El 4 71 (.bool false) 1 := ⟨Try.underlying71, by obtain ⟨i, h, h0, h1, h2⟩ := info_parts info_bool; exact ⟨i, h, h0, h1, h2⟩, rfl⟩
/-- make, the world spelled out. -/
theorem wpl_made {e sl : TypeId} {z : Value} {bytes : Nat} (E : El e sl z bytes) {w : World} {ops : Array Oper} {rest : List Oper} {o : Oper} {a : Act} {Q : Exit → Act → World → Prop} (hgd : o.guard = none) (s x : Operand)
    (ho : o.op = .makeSlice sl s x) (n : Nat) (hs : a.eval s = .int .i64 n) (hx : a.eval x = .int .i64 n) (hb : bytes * n ≤ 281474976710656) (hn : n ≤ 9223372036854775807)
    (h : ∀ w', w' = Made w e z n → wpList Try.prog ops Q rest (a.put o.dst (.slice (some ⟨w.heap.size, 0, none⟩) n n)) w') : wpList Try.prog ops Q (o :: rest) a w := by
  have hrun := run_make1 E n hb hn w
  refine wpList_plain hgd fun _ hK => ?_
  unfold Oper.wp execOp
  simp only [ho, hs, hx, Sem.run_bind, Sem.run_pure, hrun, Result.andThen_ok]
  exact hK _ _ (h _ rfl)
theorem made_bl (n : Nat) : madeCells #[Value.bool false] n = bl n (fun _ => false) := by
  apply Array.ext'
  rw [toList_madeCells_one]
  unfold bl
  apply List.ext_getElem (by simp)
  intro i h1 h2
  simp
theorem made_box (w : World) (e : TypeId) (z : Value) (n : Nat) : Box (Made w e z n) w.heap.size e (madeCells #[z] n) := Box.new w e _
/-- An order of all positions. -/
def Order (n : Nat) (O : List Nat) : Prop := O.Nodup ∧ ∀ x, x ∈ O ↔ x < n
set_option maxRecDepth 100000 in
set_option maxHeartbeats 1000000 in
theorem inward_any (g : P.G) (hr : g.Right) (v : Value) (w : World) (hv : GameV w v g) :
    Calls Try.prog 54 #[v] w fun e w' => ∃ v' O, e = .returned v' ∧ Order g.owner.length O ∧ w'.ownsRow w.heap.size 3 1 v' O.length (nv O) ∧ Below w.heap.size w w' := by
  have hop := hr.prio
  have hmp := hr.moves
  have hmany := hr.many
  have h0 := hr.pos
  obtain ⟨n, hn⟩ : ∃ n, g.owner.length = n := ⟨_, rfl⟩
  rw [hn] at hop hmp hmany h0
  obtain ⟨ba, oa, ka, bb, ob, kb, bc_, oc, kc, rfl, -, -, hcc⟩ := hv.open_ hn hop hmp h0
  have hrow := rows_of hr hn hcc
  have HROW := Lib.hid hrow
  have HR := Lib.hid hr
  have HN := Lib.hid hn
  clear hcc hr hn hop hmp hv hrow
  have hmf : ∀ (fn : Fn) (first cap : Array Value) (w : World), (Instr.makeFunc fn first cap).run Try.prog w = .ok (.func fn first cap) w := fun _ _ _ _ => rfl
  go_enter Try.func54, Try.ntmps54
  go_wp2_with (refine wpl_made elBool rfl (.tmp 9) (.tmp 9) rfl n rfl rfl (by omega) (by omega) ?_; intro w7 hw7; have g0 : ((w7.alloc (.cells #[.slice (some ⟨w.heap.size + 1 + 1, 0, none⟩) n n] 71)).alloc (.cells #[.func (.func 59) #[] #[.pointer (some ⟨w7.heap.size, 0, none⟩), .pointer (some ⟨w.heap.size, 0, none⟩), .pointer (some ⟨w7.heap.size + 1, 0, none⟩), .pointer (some ⟨w.heap.size + 1, 0, none⟩)]] 89)).cell? ⟨w.heap.size, 0, none⟩ = some (.slice (some ⟨ba, oa, none⟩) n ka) := (by rw [hw7]; exact (((((Box.new w 33 #[.slice (some ⟨ba, oa, none⟩) n ka, .slice (some ⟨bb, ob, none⟩) n kb, .slice (some ⟨bc_, oc, none⟩) n kc]).alloc _).alloc _).alloc _).alloc _).cell 0 _ rfl); have HW7 := Lib.hid hw7; clear hw7)
  clear g0
  have hw7 := HW7.out
  clear HW7
  have hbw : Below w.heap.size w ((w.alloc (.cells #[.slice (some ⟨ba, oa, none⟩) n ka, .slice (some ⟨bb, ob, none⟩) n kb, .slice (some ⟨bc_, oc, none⟩) n kc] 33)).alloc (.cells #[.slice none 0 0] 30)) := ((Below.refl _ w).alloc (Nat.le_refl _) _).alloc (by simp) _
  have hbg : Box w7 w.heap.size 33 #[.slice (some ⟨ba, oa, none⟩) n ka, .slice (some ⟨bb, ob, none⟩) n kb, .slice (some ⟨bc_, oc, none⟩) n kc] := by rw [hw7]; exact ((Box.new w _ _).alloc _).alloc _
  have hbo : Box w7 (w.heap.size + 1) 30 #[.slice none 0 0] := by
    rw [hw7]
    have := Box.new (w.alloc (.cells #[.slice (some ⟨ba, oa, none⟩) n ka, .slice (some ⟨bb, ob, none⟩) n kb, .slice (some ⟨bc_, oc, none⟩) n kc] 33)) 30 #[.slice none 0 0]
    exact (by simpa using this : Box _ (w.heap.size + 1) 30 #[.slice none 0 0]).alloc _
  have hbp : Box w7 (w.heap.size + 1 + 1) 4 (bl n (fun _ => false)) := by
    rw [hw7, ← made_bl]
    have := made_box ((w.alloc (.cells #[.slice (some ⟨ba, oa, none⟩) n ka, .slice (some ⟨bb, ob, none⟩) n kb, .slice (some ⟨bc_, oc, none⟩) n kc] 33)).alloc (.cells #[.slice none 0 0] 30)) 4 (.bool false) n
    simpa using this
  have hs7 : w7.heap.size = w.heap.size + 3 := by rw [hw7]; unfold Made; simp
  have hb7 : Below w.heap.size w w7 := by rw [hw7]; exact hbw.alloc (by simp; omega) _
  clear hw7 hbw
  have hbm : Box ((w7.alloc (.cells #[.slice (some ⟨w.heap.size + 1 + 1, 0, none⟩) n n] 71)).alloc (.cells #[.func (.func 59) #[] #[.pointer (some ⟨w7.heap.size, 0, none⟩), .pointer (some ⟨w.heap.size, 0, none⟩), .pointer (some ⟨w7.heap.size + 1, 0, none⟩), .pointer (some ⟨w.heap.size + 1, 0, none⟩)]] 89)) w7.heap.size 71 #[.slice (some ⟨w.heap.size + 1 + 1, 0, none⟩) n n] := (Box.new w7 _ _).alloc _
  have hbw : Box ((w7.alloc (.cells #[.slice (some ⟨w.heap.size + 1 + 1, 0, none⟩) n n] 71)).alloc (.cells #[.func (.func 59) #[] #[.pointer (some ⟨w7.heap.size, 0, none⟩), .pointer (some ⟨w.heap.size, 0, none⟩), .pointer (some ⟨w7.heap.size + 1, 0, none⟩), .pointer (some ⟨w.heap.size + 1, 0, none⟩)]] 89)) (w7.heap.size + 1) 89 #[.func (.func 59) #[] #[.pointer (some ⟨w7.heap.size, 0, none⟩), .pointer (some ⟨w.heap.size, 0, none⟩), .pointer (some ⟨w7.heap.size + 1, 0, none⟩), .pointer (some ⟨w.heap.size + 1, 0, none⟩)]] := by
    have := Box.new (w7.alloc (.cells #[.slice (some ⟨w.heap.size + 1 + 1, 0, none⟩) n n] 71)) 89 #[.func (.func 59) #[] #[.pointer (some ⟨w7.heap.size, 0, none⟩), .pointer (some ⟨w.heap.size, 0, none⟩), .pointer (some ⟨w7.heap.size + 1, 0, none⟩), .pointer (some ⟨w.heap.size + 1, 0, none⟩)]]
    simpa using this
  have hb8 : Below w.heap.size w ((w7.alloc (.cells #[.slice (some ⟨w.heap.size + 1 + 1, 0, none⟩) n n] 71)).alloc (.cells #[.func (.func 59) #[] #[.pointer (some ⟨w7.heap.size, 0, none⟩), .pointer (some ⟨w.heap.size, 0, none⟩), .pointer (some ⟨w7.heap.size + 1, 0, none⟩), .pointer (some ⟨w.heap.size + 1, 0, none⟩)]] 89)) := (hb7.alloc (by omega) _).alloc (by simp; omega) _
  have hs8 : ((w7.alloc (.cells #[.slice (some ⟨w.heap.size + 1 + 1, 0, none⟩) n n] 71)).alloc (.cells #[.func (.func 59) #[] #[.pointer (some ⟨w7.heap.size, 0, none⟩), .pointer (some ⟨w.heap.size, 0, none⟩), .pointer (some ⟨w7.heap.size + 1, 0, none⟩), .pointer (some ⟨w.heap.size + 1, 0, none⟩)]] 89)).heap.size = w7.heap.size + 2 := by simp
  have hbg := (hbg.alloc (.cells #[.slice (some ⟨w.heap.size + 1 + 1, 0, none⟩) n n] 71)).alloc (.cells #[.func (.func 59) #[] #[.pointer (some ⟨w7.heap.size, 0, none⟩), .pointer (some ⟨w.heap.size, 0, none⟩), .pointer (some ⟨w7.heap.size + 1, 0, none⟩), .pointer (some ⟨w.heap.size + 1, 0, none⟩)]] 89)
  have hbo := (hbo.alloc (.cells #[.slice (some ⟨w.heap.size + 1 + 1, 0, none⟩) n n] 71)).alloc (.cells #[.func (.func 59) #[] #[.pointer (some ⟨w7.heap.size, 0, none⟩), .pointer (some ⟨w.heap.size, 0, none⟩), .pointer (some ⟨w7.heap.size + 1, 0, none⟩), .pointer (some ⟨w.heap.size + 1, 0, none⟩)]] 89)
  have hbp := (hbp.alloc (.cells #[.slice (some ⟨w.heap.size + 1 + 1, 0, none⟩) n n] 71)).alloc (.cells #[.func (.func 59) #[] #[.pointer (some ⟨w7.heap.size, 0, none⟩), .pointer (some ⟨w.heap.size, 0, none⟩), .pointer (some ⟨w7.heap.size + 1, 0, none⟩), .pointer (some ⟨w.heap.size + 1, 0, none⟩)]] 89)
  generalize ((w7.alloc (.cells #[.slice (some ⟨w.heap.size + 1 + 1, 0, none⟩) n n] 71)).alloc (.cells #[.func (.func 59) #[] #[.pointer (some ⟨w7.heap.size, 0, none⟩), .pointer (some ⟨w.heap.size, 0, none⟩), .pointer (some ⟨w7.heap.size + 1, 0, none⟩), .pointer (some ⟨w.heap.size + 1, 0, none⟩)]] 89)) = w8 at hbg hbo hbp hbm hbw hb8 hs8 ⊢
  obtain ⟨qm, hqm⟩ : ∃ q, w7.heap.size = q := ⟨_, rfl⟩
  rw [hqm] at hbm hbw hs7 hs8 ⊢
  have HS7 := Lib.hid hs7
  have HS8 := Lib.hid hs8
  have HW0 := Lib.hid (show Wm w w8 (qm + 2) n w.heap.size qm (qm + 1) (w.heap.size + 1) (w.heap.size + 1 + 1) #[.slice (some ⟨ba, oa, none⟩) n ka, .slice (some ⟨bb, ob, none⟩) n kb, .slice (some ⟨bc_, oc, none⟩) n kc] (fun _ => false) [] w8 from
    ⟨hbg, hbm, hbw, ⟨_, hbo, World.ownsRow_nil _ _ _ _⟩, hbp, hb8, Rk.Keeps.refl _ _, by omega⟩)
  clear hbg hbo hbp hbm hbw hb8 hs7 hs8 hqm hb7
  go_loopw [15] (fun iv wr => ∃ (j : Nat) (M : Nat → Bool) (X : List Nat), j ≤ n ∧ iv = .int .i64 (j : Int) ∧ P.Ext n (fun _ => false) X M ∧ (∀ y, y < j → M y = true) ∧ Wm w w8 (qm + 2) n w.heap.size qm (qm + 1) (w.heap.size + 1) (w.heap.size + 1 + 1) #[.slice (some ⟨ba, oa, none⟩) n ka, .slice (some ⟨bb, ob, none⟩) n kb, .slice (some ⟨bc_, oc, none⟩) n kc] M X wr) (fun iv _ => n - (intOf iv).toNat)
  case atStart => exact ⟨0, fun _ => false, [], Nat.zero_le _, rfl, P.Ext.nil _ _, fun y hy => absurd hy (Nat.not_lt_zero y), HW0.out⟩
  case round =>
    obtain ⟨j, M, X, hj, rfl, hext, hall, hwm⟩ := hrel
    have hj0 : (0 : Int) ≤ (j : Int) := Int.natCast_nonneg _
    have HX := Lib.hid hext
    have HA := Lib.hid hall
    by_cases hlt : j < n
    · have fj : decide ((j : Int) < (n : Int)) = true := decide_eq_true (by omega)
      have cw := hwm.wbox.cell 0 _ rfl
      have HWM := Lib.hid hwm
      have HLT := Lib.hid hlt
      clear hext hall hwm hlt
      go_wp2_with fail
      refine (walk_any g HR.out w w8 (qm + 2) n w.heap.size qm (qm + 1) (w.heap.size + 1) (w.heap.size + 1 + 1) ba oa ka bb ob kb bc_ oc kc HN.out HROW.out ⟨by omega, by omega, by omega⟩ (by have := HS7.out; omega) (by have := HS7.out; omega) (by have := HS7.out; omega) (P.unmet M n) j M X wr (Nat.le_refl _) HLT.out (by have h1 := HX.out.cap; have h2 := P.unmet_le (fun _ => false) n; omega) HWM.out).mono ?_
      rintro e w2 ⟨rfl, M2, Y, hext2, hmj, hwm2⟩
      have HREL := Lib.hid (And.intro (HX.out.trans hext2) (And.intro (show ∀ y, y < j + 1 → M2 y = true from fun y hy => by
        by_cases e : y = j
        · rw [e]; exact hmj
        · exact (hext2.eq y).2 (.inl (HA.out y (by omega)))) hwm2))
      clear hext2 hmj hwm2 cw
      go_wp2_with fail
      go_roundw
      case rel => exact ⟨j + 1, M2, X ++ Y, by have := HLT.out; omega, by first | rfl | go_num, HREL.out.1, HREL.out.2.1, HREL.out.2.2⟩
      case measure => have := HLT.out; simp [intOf]; omega
    · have fj : decide ((j : Int) < (n : Int)) = false := decide_eq_false (by omega)
      have hjn : j = n := by omega
      obtain ⟨qv, hob, how⟩ := hwm.obox
      have co := hob.cell 0 _ rfl
      have HOW := Lib.hid how
      have HLW := Lib.hid hwm.low
      clear hext hall hwm hob how
      go_wp2_with fail
      go_ret
      refine ⟨_, X, rfl, ⟨HX.out.nodup, fun x => ⟨fun hx => ?_, fun hx => ?_⟩⟩, own_more HOW.out (by have := HS7.out; omega), HLW.out⟩
      · rw [HN.out]
        exact (HX.out.fresh x hx).1
      · rw [HN.out] at hx
        rcases (HX.out.eq x).1 (HA.out x (by omega)) with h | h
        · cases h
        · exact h
end W
end Go.Proofs.Yteeaojciobmcaaa
