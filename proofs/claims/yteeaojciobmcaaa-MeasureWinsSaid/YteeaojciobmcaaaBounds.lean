/- How often each counted priority comes: the program's bounds, the document's many. -/
import Derived.Test.YteeaojciobmcaaaUpA
import Derived.Test.YteeaojciobmcaaaMoves
import Derived.Deep.Cut
import Derived.Lib.Hide
import Derived.Deep.QuietTactic
import Derived.BigQuiet
namespace Go.Proofs.Yteeaojciobmcaaa
open Go.RowKit
namespace W

def bcf (f : Nat → Int) : Array Value := #[.int .i64 (f 0), .int .i64 (f 1), .int .i64 (f 2), .int .i64 (f 3)]
theorem bcf_ext {f g : Nat → Int} (h : ∀ i, i < 4 → f i = g i) : bcf f = bcf g := by
  unfold bcf
  rw [h 0 (by omega), h 1 (by omega), h 2 (by omega), h 3 (by omega)]
theorem bcf_set (f : Nat → Int) (k : Nat) (hk : k < 4) (x : Int) : (bcf f).setIfInBounds k (.int .i64 x) = bcf (fun i => if i = k then x else f i) := by
  match k, hk with
  | 0, _ => rfl
  | 1, _ => rfl
  | 2, _ => rfl
  | 3, _ => rfl
theorem bcf_tups (g : P.G) : bcf (fun i => ((g.prio.count (2 * (i : Int) + 1) : Nat) : Int)) = bc g.tups := rfl
theorem Box.bfcounter {w : World} {q : Nat} {ty : TypeId} {f : Nat → Int} (h : Box w q ty (bcf f)) (k : Nat) (hk : k < 4) : w.cell? ⟨q, k, none⟩ = some (.int .i64 (f k)) := by
  match k, hk with
  | 0, _ => exact h.cell 0 _ rfl
  | 1, _ => exact h.cell 1 _ rfl
  | 2, _ => exact h.cell 2 _ rfl
  | 3, _ => exact h.cell 3 _ rfl
/-- How often each comes among the first j, and the next one (z) for the places below k. -/
def nf (prio : List Int) (j k : Nat) (z : Int) (i : Nat) : Int := ((prio.take j).count (2 * (i : Int) + 1) : Int) + (if i < k ∧ z = 2 * (i : Int) + 1 then 1 else 0)
def nt (prio : List Int) (j : Nat) (i : Nat) : Int := ((prio.take j).count (2 * (i : Int) + 1) : Int)
theorem nf_zero (prio : List Int) (j : Nat) (z : Int) (i : Nat) : nf prio j 0 z i = nt prio j i := by
  unfold nf nt
  rw [if_neg (by omega)]
  omega
theorem nf_skip (prio : List Int) (j k : Nat) (z : Int) (h : ¬ z = 2 * (k : Int) + 1) (i : Nat) : nf prio j k z i = nf prio j (k + 1) z i := by
  unfold nf
  by_cases e : z = 2 * (i : Int) + 1
  · have : i ≠ k := fun h2 => h (by rw [e, h2])
    by_cases hi : i < k
    · rw [if_pos ⟨hi, e⟩, if_pos ⟨by omega, e⟩]
    · rw [if_neg (fun h => hi h.1), if_neg (fun h => by omega)]
  · rw [if_neg (fun h => e h.2), if_neg (fun h => e h.2)]
theorem nf_hit (prio : List Int) (j k : Nat) (z : Int) (h : z = 2 * (k : Int) + 1) (i : Nat) : (if i = k then nt prio j k + 1 else nf prio j k z i) = nf prio j (k + 1) z i := by
  unfold nf nt
  by_cases e : i = k
  · rw [if_pos e, if_pos ⟨by omega, by rw [h, e]⟩, e]
  · rw [if_neg e]
    by_cases hi : i < k ∧ z = 2 * (i : Int) + 1
    · rw [if_pos hi, if_pos ⟨by omega, hi.2⟩]
    · rw [if_neg hi, if_neg (fun h2 => by have := h2.2; omega)]
theorem nf_last (prio : List Int) (j k : Nat) (z : Int) : nf prio j k z k = nt prio j k := by
  unfold nf nt
  rw [if_neg (by omega)]
  omega
theorem nf_end (prio : List Int) (j : Nat) (hj : j < prio.length) (i : Nat) (hi : i < 4) : nf prio j 4 (prio.getD j 0) i = nt prio (j + 1) i := by
  unfold nf nt
  rw [List.take_add_one, List.count_append, List.getElem?_eq_getElem hj]
  have e : prio.getD j 0 = prio[j] := by rw [List.getD_eq_getElem?_getD, List.getElem?_eq_getElem hj]; rfl
  rw [e, Option.toList_some, List.count_singleton]
  by_cases h : prio[j] = 2 * (i : Int) + 1
  · rw [if_pos ⟨hi, h⟩, if_pos (by rw [beq_iff_eq]; exact h)]
    omega
  · rw [if_neg (fun h2 => h h2.2), if_neg (by rw [beq_iff_eq]; exact h)]
    omega
theorem nt_all (prio : List Int) (n : Nat) (hn : prio.length = n) (i : Nat) : nt prio n i = (prio.count (2 * (i : Int) + 1) : Int) := by
  unfold nt
  rw [← hn, List.take_length]
theorem nt_le (prio : List Int) (j n : Nat) (hn : prio.length = n) (i : Nat) : nt prio j i ≤ n := by
  unfold nt
  have : (prio.take j).count (2 * (i : Int) + 1) ≤ n := Nat.le_trans (List.count_le_length) (by rw [List.length_take]; omega)
  omega
theorem nt_low (prio : List Int) (j : Nat) (i : Nat) : 0 ≤ nt prio j i := by
  unfold nt
  omega
/-- Four counters written over four. -/
theorem Box.stB {w : World} {q : Nat} {ty : TypeId} {x : Nat → Int} (h : Box w q ty (bcf x)) (t : P.Tup) : Box ((((w.setCell ⟨q, 0, none⟩ (.int .i64 t.a)).setCell ⟨q, 1, none⟩ (.int .i64 t.b)).setCell ⟨q, 2, none⟩ (.int .i64 t.c)).setCell ⟨q, 3, none⟩ (.int .i64 t.d)) q ty (bc t) := (((h.set 0 _).set 1 _).set 2 _).set 3 _
set_option maxRecDepth 100000 in
set_option maxHeartbeats 1000000 in
theorem bounds_any (g : P.G) (v : Value) (w : World) (hv : GameV w v g) : Calls Try.prog 39 #[v] w fun e w' => e = .returned (.agg (bc g.tups)) ∧ Below w.heap.size w w' := by
  obtain ⟨a, b, c, rfl, -, hb, -⟩ := hv
  obtain ⟨prio, hprio⟩ : ∃ l, g.prio = l := ⟨_, rfl⟩
  rw [hprio] at hb
  have HPR := Lib.hid hprio
  clear hprio
  obtain ⟨bo, bk, rfl, hlen, hc⟩ := hb
  obtain ⟨n, hn⟩ : ∃ n, prio.length = n := ⟨_, rfl⟩
  rw [hn] at hlen ⊢
  have HC := Lib.hid hc
  have HN := Lib.hid hn
  clear hn hc
  go_enter Try.func39, Try.ntmps39
  go_wp2_with fail
  rw [show #[Value.int .i64 0, .int .i64 0, .int .i64 0, .int .i64 0] = bcf (fun _ => 0) from rfl]
  have bx0 : Box (((w.alloc (.cells #[a, .slice bo n bk, c] 33)).alloc (.cells (bcf (fun _ => 0)) 22)).alloc (.cells (bcf (fun _ => 0)) 22)) (w.heap.size) 33 #[a, .slice bo n bk, c] := Box.alloc (Box.alloc (Box.new w 33 #[a, .slice bo n bk, c]) (.cells (bcf (fun _ => 0)) 22)) (.cells (bcf (fun _ => 0)) 22)
  have bx1 : Box (((w.alloc (.cells #[a, .slice bo n bk, c] 33)).alloc (.cells (bcf (fun _ => 0)) 22)).alloc (.cells (bcf (fun _ => 0)) 22)) (w.heap.size + 1) 22 (bcf (fun _ => 0)) := by
    have := Box.alloc (Box.new (w.alloc (.cells #[a, .slice bo n bk, c] 33)) 22 (bcf (fun _ => 0))) (.cells (bcf (fun _ => 0)) 22)
    simpa using this
  have bx2 : Box (((w.alloc (.cells #[a, .slice bo n bk, c] 33)).alloc (.cells (bcf (fun _ => 0)) 22)).alloc (.cells (bcf (fun _ => 0)) 22)) (w.heap.size + 1 + 1) 22 (bcf (fun _ => 0)) := by
    have := Box.new ((w.alloc (.cells #[a, .slice bo n bk, c] 33)).alloc (.cells (bcf (fun _ => 0)) 22)) 22 (bcf (fun _ => 0))
    simpa using this
  have hbq : Below w.heap.size w (((w.alloc (.cells #[a, .slice bo n bk, c] 33)).alloc (.cells (bcf (fun _ => 0)) 22)).alloc (.cells (bcf (fun _ => 0)) 22)) := (((Below.refl _ w).alloc (Nat.le_refl _) _).alloc (by simp) _).alloc (by simp; omega) _
  have lt0 : w.heap.size < w.heap.size + 1 := Nat.lt_succ_self _
  have lt1 : w.heap.size + 1 < w.heap.size + 1 + 1 := Nat.lt_succ_self _
  have hle0 : w.heap.size ≤ w.heap.size := Nat.le_refl _
  generalize (((w.alloc (.cells #[a, .slice bo n bk, c] 33)).alloc (.cells (bcf (fun _ => 0)) 22)).alloc (.cells (bcf (fun _ => 0)) 22)) = w0 at bx0 bx1 bx2 hbq  ⊢
  have BQg := Lib.hid bx0
  have BQr := Lib.hid bx1
  have BQn := Lib.hid bx2
  have W := Lib.hid hbq
  have LTgr := Lib.hid lt0
  have LTrn := Lib.hid lt1
  have LEg := Lib.hid hle0
  clear hbq hle0 bx0 bx1 bx2 lt0 lt1
  generalize w.heap.size + 1 + 1 = qn at BQn LTrn ⊢
  generalize w.heap.size + 1 = qr at BQr LTrn LTgr ⊢
  obtain ⟨qg, hqg⟩ : ∃ qg, w.heap.size = qg := ⟨_, rfl⟩
  rw [hqg] at BQg LTgr ⊢
  have LEg : Hid (w.heap.size ≤ qg) := Lib.hid (by omega)
  clear hqg
  have LEr := Lib.hid (Nat.le_trans LEg.out (Nat.le_of_lt LTgr.out))
  have LEn := Lib.hid (Nat.le_trans LEr.out (Nat.le_of_lt LTrn.out))
  go_loopw [10] (fun i wr => ∃ j : Nat, j ≤ n ∧ i = .int .i64 (j : Int) ∧ Box wr qr 22 (bcf (fun _ => 0)) ∧ Box wr qn 22 (bcf (nt prio j)) ∧ Below w.heap.size w wr) (fun i _ => n - (intOf i).toNat)
  case atStart => exact ⟨0, Nat.zero_le _, rfl, BQr.out, by rw [bcf_ext (g := fun _ => 0) (fun i _ => by unfold nt; simp)]; exact BQn.out, W.out⟩
  case round =>
    obtain ⟨j, hj, rfl, b1, b2, hb⟩ := hrel
    replace BQr := Lib.hid b1
    replace BQn := Lib.hid b2
    replace W := Lib.hid hb
    clear b1 b2 hb
    have hj0 : (0 : Int) ≤ (j : Int) := Int.natCast_nonneg _
    by_cases hlt : j < n
    · have fj : decide ((j : Int) < (n : Int)) = true := decide_eq_true (by omega)
      obtain ⟨b, off, rfl, hbl, hc⟩ := HC.out.resolve_left (fun e => by have := HN.out; rw [e] at this; simp at this; omega)
      have hcj := hc j (by have := HN.out; omega)
      rw [← W.out.cell (p := ⟨b, off + j, none⟩) hbl] at hcj
      obtain ⟨z, hz⟩ : ∃ z, prio.getD j 0 = z := ⟨_, rfl⟩
      rw [hz] at hcj
      have HZ := Lib.hid hz
      clear hz hc
      have HCJ := Lib.hid hcj
      have HBL := Lib.hid (Nat.lt_of_lt_of_le hbl W.out.size)
      clear hbl
      go_wp2_with fail
      clear hcj
      obtain ⟨wq, rfl⟩ : ∃ wq : World, wq = wr := ⟨_, rfl⟩
      go_loopw [14] (fun i wr => ∃ k : Nat, k ≤ 4 ∧ i = .int .i64 (k : Int) ∧ Box wr qr 22 (bcf (fun _ => 0)) ∧ Box wr qn 22 (bcf (nf prio j k z)) ∧ Below w.heap.size w wr) (fun i _ => 4 - (intOf i).toNat)
      case atStart => exact ⟨0, Nat.zero_le _, rfl, BQr.out, by rw [bcf_ext (fun i _ => nf_zero prio j z i)]; exact BQn.out, W.out⟩
      case round =>
        clear BQr BQn W
        obtain ⟨k, hk, rfl, b1, b2, hb⟩ := hrel
        have BQr := Lib.hid b1
        have BQn := Lib.hid b2
        have W := Lib.hid hb
        clear b1 b2 hb
        have hk0 : (0 : Int) ≤ (k : Int) := Int.natCast_nonneg _
        by_cases hk4 : k < 4
        · have fk : decide ((k : Int) < 4) = true := decide_eq_true (by omega)
          go_wp2_with fail
          refine (counted_any (k : Int) wr hk0 (by omega)).mono ?_
          rintro e w1 ⟨rfl, rfl⟩
          by_cases hz : z = 2 * (k : Int) + 1
          · have fz : (z == 2 * (k : Int) + 1) = true := by rw [beq_iff_eq]; exact hz
            have hk4i : (k : Int) < 4 := by omega
            have c0 := BQn.out.bfcounter k hk4
            rw [nf_last] at c0
            have f0 : w1.frozen? ⟨qn, k, none⟩ = false := BQn.out.frozen k
            have hlo := nt_low prio j k
            have hhi := nt_le prio j n HN.out k
            obtain ⟨x, hx⟩ : ∃ x, nt prio j k = x := ⟨_, rfl⟩
            rw [hx] at c0 hlo hhi
            have HX := Lib.hid hx
            have HZK := Lib.hid hz
            clear hx hz
            go_wp2_with fail
            clear c0 f0
            have b2 := BQn.out.set k (.int .i64 (x + 1))
            rw [bcf_set _ k hk4] at b2
            have e1 : bcf (fun i => if i = k then x + 1 else nf prio j k z i) = bcf (nf prio j (k + 1) z) := bcf_ext fun i _ => by
              rw [← HX.out]
              exact nf_hit prio j k z HZK.out i
            rw [e1] at b2
            have b1 : Box (w1.setCell ⟨qn, k, none⟩ (.int .i64 (x + 1))) qr 22 (bcf (fun _ => 0)) := BQr.out.far (by have := LTrn.out; simp only; omega) _
            have hb := W.out.setCell (p := ⟨qn, k, none⟩) LEn.out (.int .i64 (x + 1))
            generalize w1.setCell ⟨qn, k, none⟩ (.int .i64 (x + 1)) = w2 at b1 b2 hb ⊢
            go_roundw
            case rel => exact ⟨k + 1, by omega, by first | rfl | go_num, b1, b2, hb⟩
            case measure => simp [intOf]; omega
          · have fz : (z == 2 * (k : Int) + 1) = false := by rw [beq_eq_false_iff_ne]; exact hz
            have HZK := Lib.hid hz
            clear hz
            go_wp2_with fail
            go_roundw
            case rel => exact ⟨k + 1, by omega, by first | rfl | go_num, BQr.out, by rw [← bcf_ext (fun i _ => nf_skip prio j k z HZK.out i)]; exact BQn.out, W.out⟩
            case measure => simp [intOf]; omega
        · have fk : decide ((k : Int) < 4) = false := decide_eq_false (by omega)
          have hk : k = 4 := by omega
          subst hk
          rw [← HZ.out, bcf_ext (nf_end prio j (by have := HN.out; omega))] at BQn
          go_wp2_with fail
          go_roundw
          case rel => exact ⟨j + 1, by omega, by first | rfl | go_num, BQr.out, BQn.out, W.out⟩
          case measure => simp [intOf]; omega
    · have fj : decide ((j : Int) < (n : Int)) = false := decide_eq_false (by omega)
      have hjn : j = n := by omega
      subst hjn
      rw [bcf_ext (fun i _ => nt_all prio j HN.out i), ← HPR.out, bcf_tups] at BQn
      have hbb := BQn.out
      have nc0 : wr.cell? ⟨qn, 0, none⟩ = some (.int .i64 g.tups.a) := hbb.cell 0 _ rfl
      have nc1 : wr.cell? ⟨qn, 1, none⟩ = some (.int .i64 g.tups.b) := hbb.cell 1 _ rfl
      have nc2 : wr.cell? ⟨qn, 2, none⟩ = some (.int .i64 g.tups.c) := hbb.cell 2 _ rfl
      have nc3 : wr.cell? ⟨qn, 3, none⟩ = some (.int .i64 g.tups.d) := hbb.cell 3 _ rfl
      clear hbb
      have hbb := BQr.out
      have rc0 : wr.cell? ⟨qr, 0, none⟩ = some (.int .i64 0) := hbb.cell 0 _ rfl
      have rc1 : wr.cell? ⟨qr, 1, none⟩ = some (.int .i64 0) := hbb.cell 1 _ rfl
      have rc2 : wr.cell? ⟨qr, 2, none⟩ = some (.int .i64 0) := hbb.cell 2 _ rfl
      have rc3 : wr.cell? ⟨qr, 3, none⟩ = some (.int .i64 0) := hbb.cell 3 _ rfl
      have rf0 : wr.frozen? ⟨qr, 0, none⟩ = false := hbb.frozen 0
      have rf1 : wr.frozen? ⟨qr, 1, none⟩ = false := hbb.frozen 1
      have rf2 : wr.frozen? ⟨qr, 2, none⟩ = false := hbb.frozen 2
      have rf3 : wr.frozen? ⟨qr, 3, none⟩ = false := hbb.frozen 3
      clear hbb
      go_wp2_with fail
      have bz := BQr.out.stB g.tups
      have hbz := (((W.out.setCell (p := ⟨qr, 0, none⟩) LEr.out (.int .i64 g.tups.a)).setCell (p := ⟨qr, 1, none⟩) LEr.out (.int .i64 g.tups.b)).setCell (p := ⟨qr, 2, none⟩) LEr.out (.int .i64 g.tups.c)).setCell (p := ⟨qr, 3, none⟩) LEr.out (.int .i64 g.tups.d)
      generalize ((((wr.setCell ⟨qr, 0, none⟩ (.int .i64 g.tups.a)).setCell ⟨qr, 1, none⟩ (.int .i64 g.tups.b)).setCell ⟨qr, 2, none⟩ (.int .i64 g.tups.c)).setCell ⟨qr, 3, none⟩ (.int .i64 g.tups.d)) = wz at bz hbz ⊢
      have zc0 : wz.cell? ⟨qr, 0, none⟩ = some (.int .i64 g.tups.a) := bz.cell 0 _ rfl
      have zc1 : wz.cell? ⟨qr, 1, none⟩ = some (.int .i64 g.tups.b) := bz.cell 1 _ rfl
      have zc2 : wz.cell? ⟨qr, 2, none⟩ = some (.int .i64 g.tups.c) := bz.cell 2 _ rfl
      have zc3 : wz.cell? ⟨qr, 3, none⟩ = some (.int .i64 g.tups.d) := bz.cell 3 _ rfl
      exact bodyPost_ret (v := .agg (bc g.tups)) (by simp [results, Try.results39, go_sem, zc0, zc1, zc2, zc3, bc]) rfl ⟨rfl, hbz⟩
end W
end Go.Proofs.Yteeaojciobmcaaa
