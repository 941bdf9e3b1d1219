/- The document's example: what is shown at the head of each statement. -/
import Derived.Test.YtlbikfimfaecnaaDoorLiteral
import Derived.Test.YtlbikfimfaecnaaDoorKeep
import Derived.Test.YtlbikfimfaecnaaDoorSub
import Derived.Test.YtlbikfimfaecnaaDoorOf
import Derived.Test.YtlbikfimfaecnaaDoorOwn
import Derived.Test.YtlbikfimfaecnaaDoorSameGame
import Derived.Test.YtlbikfimfaecnaaDoorEq
namespace Go.Proofs.YtlbikfimfaecnaaDoor
open Go.RowKit
namespace W

def EX : P.G := ⟨[0, 1, 1], [1, 4, 7], [[1, 2], [0], [0, 2]]⟩
set_option maxRecDepth 100000 in
set_option maxHeartbeats 1000000 in
theorem example_any (w : World) : Calls Tryd.prog 36 #[] w fun e w' => ∃ v, e = .returned v ∧ GameV w' v EX ∧ Below w.heap.size w w' := by
  go_enter Tryd.func36, Tryd.ntmps36
  go_wp2_with fail
  refine bodyPost_ret (v := .agg #[.slice (some ⟨w.heap.size + 1, 0, none⟩) 3 3, .slice (some ⟨w.heap.size + 1 + 1, 0, none⟩) 3 3, .slice (some ⟨w.heap.size + 1 + 1 + 1 + 1 + 1 + 1, 0, none⟩) 3 3]) (by simp [results, Tryd.results36, go_sem]) rfl ⟨_, rfl, ?_, ?_⟩
  · show GameV (allocs w [.cells #[.slice (some ⟨w.heap.size + 1, 0, none⟩) 3 3, .slice (some ⟨w.heap.size + 1 + 1, 0, none⟩) 3 3, .slice (some ⟨w.heap.size + 1 + 1 + 1 + 1 + 1 + 1, 0, none⟩) 3 3] 25, .cells #[.int .i64 0, .int .i64 1, .int .i64 1] 3, .cells #[.int .i64 1, .int .i64 4, .int .i64 7] 3, .cells #[.int .i64 1, .int .i64 2] 3, .cells #[.int .i64 0] 3, .cells #[.int .i64 0, .int .i64 2] 3, .cells #[.slice (some ⟨w.heap.size + 1 + 1 + 1, 0, none⟩) 2 2, .slice (some ⟨w.heap.size + 1 + 1 + 1 + 1, 0, none⟩) 1 1, .slice (some ⟨w.heap.size + 1 + 1 + 1 + 1 + 1, 0, none⟩) 2 2] 22]) _ EX
    refine ⟨_, _, _, rfl, (allocs_box 1 rfl).ints [0, 1, 1] rfl (by decide) _ _ rfl, (allocs_box 2 rfl).ints [1, 4, 7] rfl (by decide) _ _ rfl, (allocs_box 6 rfl).grid [[1, 2], [0], [0, 2]] rfl (by decide) (fun j x hx => ?_) _ _ rfl⟩
    match j, hx with
    | 0, hx => simp at hx; subst hx; exact (allocs_box 3 rfl).ints [1, 2] rfl (by decide) _ _ rfl
    | 1, hx => simp at hx; subst hx; exact (allocs_box 4 rfl).ints [0] rfl (by decide) _ _ rfl
    | 2, hx => simp at hx; subst hx; exact (allocs_box 5 rfl).ints [0, 2] rfl (by decide) _ _ rfl
  · show Below w.heap.size w (allocs w [.cells #[.slice (some ⟨w.heap.size + 1, 0, none⟩) 3 3, .slice (some ⟨w.heap.size + 1 + 1, 0, none⟩) 3 3, .slice (some ⟨w.heap.size + 1 + 1 + 1 + 1 + 1 + 1, 0, none⟩) 3 3] 25, .cells #[.int .i64 0, .int .i64 1, .int .i64 1] 3, .cells #[.int .i64 1, .int .i64 4, .int .i64 7] 3, .cells #[.int .i64 1, .int .i64 2] 3, .cells #[.int .i64 0] 3, .cells #[.int .i64 0, .int .i64 2] 3, .cells #[.slice (some ⟨w.heap.size + 1 + 1 + 1, 0, none⟩) 2 2, .slice (some ⟨w.heap.size + 1 + 1 + 1 + 1, 0, none⟩) 1 1, .slice (some ⟨w.heap.size + 1 + 1 + 1 + 1 + 1, 0, none⟩) 2 2] 22])
    exact below_of_grown (allocs_grown _ _)
theorem example_at (w : World) : Calls Tryd.prog 36 #[] w fun e w' => ∃ ao ka bo kb co kc, e = .returned (.agg #[.slice ao 3 ka, .slice bo 3 kb, .slice co 3 kc]) ∧ GameV w' (.agg #[.slice ao 3 ka, .slice bo 3 kb, .slice co 3 kc]) EX ∧ Below w.heap.size w w' :=
  (example_any w).mono fun e w' ⟨v, he, hv, hb⟩ => by
    have HV := hv
    obtain ⟨a, b, c, rfl, ⟨ao, ka, rfl, _⟩, ⟨bo, kb, rfl, _⟩, ⟨co, kc, rfl, _⟩⟩ := hv
    exact ⟨ao, ka, bo, kb, co, kc, he, HV, hb⟩
def tupleAt (v : Value) (i : Nat) : Value := match v with
  | .tuple cs => cs.getD i undef
  | _ => undef
def S029 : BitVec 256 := P.ofL [0, 2, 9]
/-- What Sub gives of the example. -/
def SubV (lo : Nat) (v : Value) (w' : World) : Prop := ∃ a1 k1 b1 k2 c1 k3 x1 k4 L, v = .tuple #[.agg #[.slice a1 2 k1, .slice b1 2 k2, .slice c1 2 k3], .slice x1 2 k4, .bool true] ∧ OwnG w' lo (.slice a1 2 k1) (.slice b1 2 k2) (.slice c1 2 k3) L ⟨[0, 1], [1, 7], [[1], [0, 1]]⟩ ∧ OwnI w' lo (.slice x1 2 k4) [0, 2]
theorem SubV.grown {lo : Nat} {v : Value} {w w' : World} (h : SubV lo v w) (hg : w.grownBy w' none) : SubV lo v w' := by
  obtain ⟨a1, k1, b1, k2, c1, k3, x1, k4, L, hv, ho, hi⟩ := h
  exact ⟨a1, k1, b1, k2, c1, k3, x1, k4, L, hv, ho.grown hg, own_grown hi hg⟩
theorem sub_ex (v : Value) (w : World) (hv : GameV w v EX) (hT : Tab w) : Calls Tryd.prog 22 #[v, .agg #[.int .u64 (P.wrd S029 0), .int .u64 (P.wrd S029 1), .int .u64 (P.wrd S029 2), .int .u64 (P.wrd S029 3)]] w fun e w' => ∃ u, e = .returned u ∧ SubV w.heap.size u w' ∧ Below w.heap.size w w' :=
  (sub_any EX S029 v w hv hT).mono fun e w' h => by
    unfold Subbed at h
    rw [if_pos (show EX.has S029 = true by decide +kernel)] at h
    obtain ⟨a, b, c, L, x, he, ho, hi, hb⟩ := h
    rw [show EX.part S029 = ⟨[0, 1], [1, 7], [[1], [0, 1]]⟩ by decide +kernel] at ho
    rw [show (EX.old S029).map (fun (i : Nat) => (i : Int)) = [0, 2] by decide +kernel] at hi
    obtain ⟨a1, k1, b1, k2, c1, k3, rfl, rfl, rfl⟩ := ho.forms
    obtain ⟨x1, k4, rfl, -⟩ := own_at hi
    exact ⟨_, he, ⟨a1, k1, b1, k2, c1, k3, x1, k4, L, rfl, ho, hi⟩, hb⟩
def DEX : P.G := ⟨[1, 0, 0], [0, 3, 6], [[1, 2], [0], [0, 2]]⟩
theorem fits_dex : Fits DEX := ⟨by decide, by decide, by decide, fun j l h => by
  match j, h with
  | 0, h => simp [DEX] at h; subst h; decide
  | 1, h => simp [DEX] at h; subst h; decide
  | 2, h => simp [DEX] at h; subst h; decide⟩
theorem dual_ex (v : Value) (w : World) (hv : GameV w v EX) : Calls Tryd.prog 18 #[v] w fun e w' => ∃ a1 k1 b1 k2 c1 k3, e = .returned (.agg #[.slice a1 3 k1, .slice b1 3 k2, .slice c1 3 k3]) ∧ GameV w' (.agg #[.slice a1 3 k1, .slice b1 3 k2, .slice c1 3 k3]) DEX ∧ Below w.heap.size w w' :=
  (dual_any EX v w hv).mono fun e w' ⟨a, b, c, L, he, ho, hb⟩ => by
    rw [show EX.dual = DEX by decide +kernel] at ho
    have hg := ho.game fits_dex
    obtain ⟨a1, k1, b1, k2, c1, k3, rfl, rfl, rfl⟩ := ho.forms
    exact ⟨a1, k1, b1, k2, c1, k3, he, hg, hb⟩
def PEX : P.G := ⟨[0, 1], [1, 7], [[1], [0, 1]]⟩
theorem fits_pex : Fits PEX := ⟨by decide, by decide, by decide, fun j l h => by
  match j, h with
  | 0, h => simp [PEX] at h; subst h; decide
  | 1, h => simp [PEX] at h; subst h; decide⟩
theorem gamev_none (w : World) : GameV w (.agg #[.slice none 0 0, .slice none 0 0, .slice none 0 0]) P.G.none := ⟨_, _, _, rfl, ⟨none, 0, rfl, by decide, .inl rfl⟩, ⟨none, 0, rfl, by decide, .inl rfl⟩, ⟨none, 0, rfl, by decide, .inl rfl⟩⟩

theorem GameV.grown_ {w w' : World} {v : Value} {g : P.G} (h : GameV w v g) (hg : w.grownBy w' none) : GameV w' v g := h.on (below_of_grown hg)
theorem SubV.low {lo lo' : Nat} {v : Value} {w : World} (h : SubV lo v w) (hl : lo' ≤ lo) : SubV lo' v w := by
  obtain ⟨a1, k1, b1, k2, c1, k3, x1, k4, L, hv, ho, hi⟩ := h
  exact ⟨a1, k1, b1, k2, c1, k3, x1, k4, L, hv, ho.low hl, own_more hi hl⟩
def S12 : BitVec 256 := P.ofL [1, 2]
def S2 : BitVec 256 := P.ofL [2]
def DEXL : List Obj := [.cells #[.int .i64 1, .int .i64 0, .int .i64 0] 3, .cells #[.int .i64 0, .int .i64 3, .int .i64 6] 3]
theorem dex_lit (w : World) {a b c : Value} (h : GameV w (.agg #[a, b, c]) EX) : GameV (allocs w DEXL) (.agg #[.slice (some ⟨w.heap.size, 0, none⟩) 3 3, .slice (some ⟨w.heap.size + 1, 0, none⟩) 3 3, c]) DEX := by
  obtain ⟨a', b', c', he, -, -, hc⟩ := h
  injection he with he
  simp only [Array.mk.injEq, List.cons.injEq, and_true] at he
  obtain ⟨rfl, rfl, rfl⟩ := he
  exact ⟨_, _, _, rfl, (allocs_box 0 rfl).ints [1, 0, 0] rfl (by decide) _ _ rfl, (allocs_box 1 rfl).ints [0, 3, 6] rfl (by decide) _ _ rfl, hc.grown (allocs_grown w DEXL)⟩
def PEXL (w : World) : List Obj := [.cells #[.int .i64 0, .int .i64 1] 3, .cells #[.int .i64 1, .int .i64 7] 3, .cells #[.int .i64 1] 3, .cells #[.int .i64 0, .int .i64 1] 3, .cells #[.slice (some ⟨w.heap.size + 1 + 1, 0, none⟩) 1 1, .slice (some ⟨w.heap.size + 1 + 1 + 1, 0, none⟩) 2 2] 22]
theorem pex_lit (w : World) : GameV (allocs w (PEXL w)) (.agg #[.slice (some ⟨w.heap.size, 0, none⟩) 2 2, .slice (some ⟨w.heap.size + 1, 0, none⟩) 2 2, .slice (some ⟨w.heap.size + 1 + 1 + 1 + 1, 0, none⟩) 2 2]) PEX := by
  refine ⟨_, _, _, rfl, (allocs_box 0 rfl).ints [0, 1] rfl (by decide) _ _ rfl, (allocs_box 1 rfl).ints [1, 7] rfl (by decide) _ _ rfl, (allocs_box 4 rfl).grid [[1], [0, 1]] rfl (by decide) (fun j x hx => ?_) _ _ rfl⟩
  match j, hx with
  | 0, hx => simp at hx; subst hx; exact (allocs_box 2 rfl).ints [1] rfl (by decide) _ _ rfl
  | 1, hx => simp at hx; subst hx; exact (allocs_box 3 rfl).ints [0, 1] rfl (by decide) _ _ rfl
theorem SubV.other {lo N : Nat} {t : TypeId} {v : Value} {w w' : World} (h : SubV lo v w) (hk : Rk.Keeps (KG N t) w w') (h1 : 3 ≠ t) (h2 : 22 ≠ t) : SubV lo v w' := by
  obtain ⟨a1, k1, b1, k2, c1, k3, x1, k4, L, hv, ho, hi⟩ := h
  exact ⟨a1, k1, b1, k2, c1, k3, x1, k4, L, hv, ho.other hk h1 h2, own_other hi hk h1⟩
theorem of_lit (b n : Nat) (zs : List Int) (w : World) {cs : Array Value} (hb : Box w b 3 cs) (hcs : cs = (zs.map (Value.int .i64)).toArray) (hn : n ≤ 1000 := by decide) (hl : zs.length = n := by rfl) :
    Calls Tryd.prog 33 #[.slice (some ⟨b, 0, none⟩) n n] w fun e w' => e = .returned (.agg #[.int .u64 (P.wrd (P.ofL zs) 0), .int .u64 (P.wrd (P.ofL zs) 1), .int .u64 (P.wrd (P.ofL zs) 2), .int .u64 (P.wrd (P.ofL zs) 3)]) ∧ Below w.heap.size w w' := by
  subst hl
  have h := of_any b 0 zs.length zs.length zs w (Nat.le_refl _) (by unfold maxLen; omega) hb.lt (fun j hj => by
    rw [Nat.zero_add]
    refine hb.cell j _ ?_
    rw [hcs]
    simp [hj])
  rw [List.take_of_length_le (Nat.le_refl _)] at h
  exact h
set_option maxRecDepth 100000 in
set_option maxHeartbeats 1000000 in
theorem shown_any (w : World) (hT : Tab w) : Calls Tryd.prog 12 #[] w fun e w' => e = .returned (.bool true) ∧ Below w.heap.size w w' := by
  go_enter Tryd.func12, Tryd.ntmps12
  go_wp2_with fail
  refine (example_at w).mono ?_
  rintro e w1 ⟨ao, ka, bo, kb, co, kc, rfl, hv, hb1⟩
  have GEX := Lib.hid hv
  have T := Lib.hid (hT.on hb1)
  have W := Lib.hid hb1
  clear hv hb1 hT
  go_wp2_with fail
  have bq : Box (w1.alloc (.cells #[.slice ao 3 ka, .slice bo 3 kb, .slice co 3 kc] 25)) w1.heap.size 25 #[.slice ao 3 ka, .slice bo 3 kb, .slice co 3 kc] := Box.new _ _ _
  have hgq := World.grownBy_alloc w1 (.cells #[.slice ao 3 ka, .slice bo 3 kb, .slice co 3 kc] 25) none
  have GEX := Lib.hid (GEX.out.on (below_of_grown hgq))
  have T := Lib.hid (T.out.on (below_of_grown hgq))
  have W := Lib.hid (W.out.trans ((below_of_grown hgq).mono W.out.size))
  generalize (w1.alloc (.cells #[.slice ao 3 ka, .slice bo 3 kb, .slice co 3 kc] 25)) = w2 at bq GEX T W ⊢
  generalize w1.heap.size = q1 at bq ⊢
  have BQ1 := Lib.hid bq
  clear bq hgq
  refine (right_any EX _ _ GEX.out).mono ?_
  rintro e w3 ⟨rfl, hb⟩
  rw [show EX.right.1 = 0 by decide +kernel, show EX.right.2 = 0 by decide +kernel]
  have BQ1 := Lib.hid (BQ1.out.keep (grown_of_below hb none))
  have GEX := Lib.hid (GEX.out.on hb)
  have T := Lib.hid (T.out.on hb)
  have W := Lib.hid (W.out.trans (hb.mono W.out.size))
  clear hb
  have b := BQ1.out
  have pc0 : w3.cell? ⟨q1, 0, none⟩ = some (.slice ao 3 ka) := b.cell 0 _ rfl
  have pc1 : w3.cell? ⟨q1, 1, none⟩ = some (.slice bo 3 kb) := b.cell 1 _ rfl
  have pc2 : w3.cell? ⟨q1, 2, none⟩ = some (.slice co 3 kc) := b.cell 2 _ rfl
  clear b
  go_wp2_with fail
  refine (dual_ex _ _ GEX.out).mono ?_
  rintro e w4 ⟨da, dka, db, dkb, dc, dkc, rfl, hd, hb⟩
  have BQ1 := Lib.hid (BQ1.out.keep (grown_of_below hb none))
  have GEX := Lib.hid (GEX.out.on hb)
  have T := Lib.hid (T.out.on hb)
  have W := Lib.hid (W.out.trans (hb.mono W.out.size))
  have GDX := Lib.hid hd
  clear hb hd pc0 pc1 pc2
  go_wp2_with fail
  have bq : Box (w4.alloc (.cells #[.slice da 3 dka, .slice db 3 dkb, .slice dc 3 dkc] 25)) w4.heap.size 25 #[.slice da 3 dka, .slice db 3 dkb, .slice dc 3 dkc] := Box.new _ _ _
  have hgq := World.grownBy_alloc w4 (.cells #[.slice da 3 dka, .slice db 3 dkb, .slice dc 3 dkc] 25) none
  have BQ1 := Lib.hid (BQ1.out.keep hgq)
  have GEX := Lib.hid (GEX.out.on (below_of_grown hgq))
  have GDX := Lib.hid (GDX.out.on (below_of_grown hgq))
  have T := Lib.hid (T.out.on (below_of_grown hgq))
  have W := Lib.hid (W.out.trans ((below_of_grown hgq).mono W.out.size))
  generalize (w4.alloc (.cells #[.slice da 3 dka, .slice db 3 dkb, .slice dc 3 dkc] 25)) = w5 at bq BQ1 GEX GDX T W ⊢
  generalize w4.heap.size = q4 at bq ⊢
  have BQ4 := Lib.hid bq
  clear bq hgq
  refine Rk.wp_region_lit (fun idx => match idx with | 0 => (fun v _ _ => v = .agg #[.slice ao 3 ka, .slice bo 3 kb, .slice co 3 kc]) | 1 => (fun v _ w' => ∃ p, v = .slice (some ⟨p, 0, none⟩) 3 3 ∧ Box w' p 3 #[.int .i64 0, .int .i64 2, .int .i64 9]) | 2 => (fun v _ _ => v = .agg #[.int .u64 (P.wrd S029 0), .int .u64 (P.wrd S029 1), .int .u64 (P.wrd S029 2), .int .u64 (P.wrd S029 3)]) | 3 => (fun v _ w' => SubV w5.heap.size v w') | 4 => (fun v ds w' => v = ds.getD 0 undef ∧ SubV w5.heap.size v w') | 5 => (fun v ds _ => v = tupleAt (ds.getD 0 undef) 0) | 6 => (fun v ds _ => v = tupleAt (ds.getD 0 undef) 1) | 7 => (fun v ds _ => v = tupleAt (ds.getD 0 undef) 2) | 8 => (fun v _ _ => ∃ p, v = .pointer (some ⟨p, 0, none⟩) ∧ w5.heap.size ≤ p) | 9 => (fun _ ds w' => ∃ p a1 k1 b1 k2 c1 k3, ds.getD 0 undef = .pointer (some ⟨p, 0, none⟩) ∧ ds.getD 1 undef = .agg #[.slice a1 2 k1, .slice b1 2 k2, .slice c1 2 k3] ∧ Box w' p 25 #[.slice a1 2 k1, .slice b1 2 k2, .slice c1 2 k3]) | 10 => (fun v ds _ => v = ds.getD 0 undef) | _ => fun _ _ _ => True) (fun idx => match idx with | 8 => (fun v _ w' => ∃ p, v = .pointer (some ⟨p, 0, none⟩) ∧ Box w' p 25 #[.slice none 0 0, .slice none 0 0, .slice none 0 0]) | _ => fun _ _ _ => True) (KG w5.heap.size 25) 9 (by kernel_rfl) (by rfl) (by kernel_rfl) (by rfl) ?_ ?_ ?_ ?_
  · refine ⟨?_, ?_, ?_, ?_, ?_, ?_, ?_, ?_, ?_, ?_, ?_, trivial⟩
    · intro A w' K vals h hn hT hgk hK0
      have hg : w5.grownBy w' none := keeps_old hgk
      have hK := fun v u (h1 : w'.grownBy u none) h2 => hK0 v u (Rk.keep_of h1) h2 trivial
      clear hT hgk hK0
      have r0 : A.tmps[1]?.getD undef = .pointer (some ⟨q1, 0, none⟩) := Rg.slot h.1
      have b := BQ1.out.keep hg
      have cc0 : w'.cell? ⟨q1, 0, none⟩ = some (.slice ao 3 ka) := b.cell 0 _ rfl
      have cc1 : w'.cell? ⟨q1, 1, none⟩ = some (.slice bo 3 kb) := b.cell 1 _ rfl
      have cc2 : w'.cell? ⟨q1, 2, none⟩ = some (.slice co 3 kc) := b.cell 2 _ rfl
      clear h hn hg b
      simp [Oper.wp, execOp, go_sem, r0, cc0, cc1, cc2]
      exact hK _ _ (Rg.grown_refl _ _) rfl
    · intro A w' K vals h hn hT hgk hK0
      have hg : w5.grownBy w' none := keeps_old hgk
      have hK := fun v u (h1 : w'.grownBy u none) h2 => hK0 v u (Rk.keep_of h1) h2 trivial
      clear hT hgk hK0
      clear h hn hg
      simp [Oper.wp, execOp, go_sem]
      exact hK _ _ (World.grownBy_alloc _ _ _) ⟨_, rfl, Box.new _ _ _⟩
    · intro A w' K vals h hn hT hgk hK0
      have hg : w5.grownBy w' none := keeps_old hgk
      have hK := fun v u (h1 : w'.grownBy u none) h2 => hK0 v u (Rk.keep_of h1) h2 trivial
      clear hT hgk hK0
      have r0 : A.tmps[22]?.getD undef = vals 1 := Rg.slot h.2.1
      obtain ⟨p, hv, hbp⟩ : ∃ p, vals 1 = .slice (some ⟨p, 0, none⟩) 3 3 ∧ Box w' p 3 #[.int .i64 0, .int .i64 2, .int .i64 9] := hn.1
      clear h hn
      simp [Oper.wp, go_sem, r0, hv]
      refine (of_lit p 3 [0, 2, 9] w' hbp rfl (by decide)).mono ?_
      rintro e w'' ⟨rfl, hb⟩
      exact hK _ _ (grown_of_below hb _) rfl
    · intro A w' K vals h hn hT hgk hK0
      have hg : w5.grownBy w' none := keeps_old hgk
      have hK := fun v u (h1 : w'.grownBy u none) h2 => hK0 v u (Rk.keep_of h1) h2 trivial
      clear hT hgk hK0
      have r0 : A.tmps[21]?.getD undef = vals 0 := Rg.slot h.2.1
      have r1 : A.tmps[23]?.getD undef = vals 2 := Rg.slot h.2.2.1
      have s0 : vals 0 = .agg #[.slice ao 3 ka, .slice bo 3 kb, .slice co 3 kc] := hn.1
      have s1 : vals 2 = .agg #[.int .u64 (P.wrd S029 0), .int .u64 (P.wrd S029 1), .int .u64 (P.wrd S029 2), .int .u64 (P.wrd S029 3)] := hn.2.1
      clear h hn
      simp [Oper.wp, go_sem, r0, r1, s0, s1]
      refine (sub_ex (.agg #[.slice ao 3 ka, .slice bo 3 kb, .slice co 3 kc]) w' (GEX.out.grown_ hg) (T.out.on (below_of_grown hg))).mono ?_
      rintro e w'' ⟨u, rfl, hu, hb⟩
      exact hK _ _ (grown_of_below hb _) (hu.low hg.size)
    · intro A w' K vals h hn hT hgk hK0
      have hg : w5.grownBy w' none := keeps_old hgk
      have hK := fun v u (h1 : w'.grownBy u none) h2 => hK0 v u (Rk.keep_of h1) h2 trivial
      clear hT hgk hK0
      have r0 : A.tmps[24]?.getD undef = vals 3 := Rg.slot h.1
      have n3 : SubV w5.heap.size (vals 3) w' := hn.1
      clear h hn hg
      simp [Oper.wp, execOp, go_sem, r0]
      exact hK _ _ (Rg.grown_refl _ _) ⟨rfl, n3⟩
    · intro A w' K vals h hn hT hgk hK0
      have hg : w5.grownBy w' none := keeps_old hgk
      have hK := fun v u (h1 : w'.grownBy u none) h2 => hK0 v u (Rk.keep_of h1) h2 trivial
      clear hT hgk hK0
      have r0 : A.tmps[20]?.getD undef = vals 4 := Rg.slot h.1
      obtain ⟨a1, k1, b1, k2, c1, k3, x1, k4, L, hv, -, -⟩ : SubV w5.heap.size (vals 4) w' := hn.1.2
      clear h hn hg
      simp [Oper.wp, execOp, go_sem, r0, hv]
      refine hK _ _ (Rg.grown_refl _ _) ?_
      show _ = tupleAt (vals 4) 0
      rw [hv]
      rfl
    · intro A w' K vals h hn hT hgk hK0
      have hg : w5.grownBy w' none := keeps_old hgk
      have hK := fun v u (h1 : w'.grownBy u none) h2 => hK0 v u (Rk.keep_of h1) h2 trivial
      clear hT hgk hK0
      have r0 : A.tmps[20]?.getD undef = vals 4 := Rg.slot h.1
      obtain ⟨a1, k1, b1, k2, c1, k3, x1, k4, L, hv, -, -⟩ : SubV w5.heap.size (vals 4) w' := hn.1.2
      clear h hn hg
      simp [Oper.wp, execOp, go_sem, r0, hv]
      refine hK _ _ (Rg.grown_refl _ _) ?_
      show _ = tupleAt (vals 4) 1
      rw [hv]
      rfl
    · intro A w' K vals h hn hT hgk hK0
      have hg : w5.grownBy w' none := keeps_old hgk
      have hK := fun v u (h1 : w'.grownBy u none) h2 => hK0 v u (Rk.keep_of h1) h2 trivial
      clear hT hgk hK0
      have r0 : A.tmps[20]?.getD undef = vals 4 := Rg.slot h.1
      obtain ⟨a1, k1, b1, k2, c1, k3, x1, k4, L, hv, -, -⟩ : SubV w5.heap.size (vals 4) w' := hn.1.2
      clear h hn hg
      simp [Oper.wp, execOp, go_sem, r0, hv]
      refine hK _ _ (Rg.grown_refl _ _) ?_
      show _ = tupleAt (vals 4) 2
      rw [hv]
      rfl
    · intro A w' K vals h hn hT hgk hK0
      clear h hn hT
      simp [Oper.wp, execOp, go_sem]
      exact hK0 _ _ (Rk.keep_of (World.grownBy_alloc _ _ _)) ⟨_, rfl, hgk.size⟩ ⟨_, rfl, Box.new _ _ _⟩
    · intro A w' K vals h hn hT hgk hK0
      have r0 : A.tmps[5]?.getD undef = vals 8 := Rg.slot h.1
      have r1 : A.tmps[25]?.getD undef = vals 5 := Rg.slot h.2.1
      obtain ⟨p, hp, hbx⟩ : ∃ p, vals 8 = .pointer (some ⟨p, 0, none⟩) ∧ Box w' p 25 #[.slice none 0 0, .slice none 0 0, .slice none 0 0] := (hT rfl).1
      obtain ⟨p', hp', hlo⟩ : ∃ p, vals 8 = .pointer (some ⟨p, 0, none⟩) ∧ w5.heap.size ≤ p := hn.1
      have s5 : vals 5 = tupleAt (vals 4) 0 := hn.2.1
      obtain ⟨a1, k1, b1, k2, c1, k3, x1, k4, L, s3, ho, hi⟩ : SubV w5.heap.size (vals 4) w' := hn.2.2.2.2.2.2.2.1.2
      rw [s3] at s5
      have s5 : vals 5 = .agg #[.slice a1 2 k1, .slice b1 2 k2, .slice c1 2 k3] := s5
      obtain rfl : p' = p := by rw [hp'] at hp; injection hp with hp; injection hp with hp; injection hp with hp
      clear h hn hT ho hi s3
      have qc0 : w'.cell? ⟨p', 0, none⟩ = some (.slice none 0 0) := hbx.cell 0 _ rfl
      have qc1 : w'.cell? ⟨p', 1, none⟩ = some (.slice none 0 0) := hbx.cell 1 _ rfl
      have qc2 : w'.cell? ⟨p', 2, none⟩ = some (.slice none 0 0) := hbx.cell 2 _ rfl
      have qf0 : w'.frozen? ⟨p', 0, none⟩ = false := hbx.frozen 0
      have qf1 : w'.frozen? ⟨p', 1, none⟩ = false := hbx.frozen 1
      have qf2 : w'.frozen? ⟨p', 2, none⟩ = false := hbx.frozen 2
      simp [Oper.wp, execOp, go_sem, r0, r1, hp', s5, qc0, qc1, qc2, qf0, qf1, qf2]
      refine hK0 undef _ (((keeps_set hbx hlo _ _).trans (keeps_set (hbx.set _ _) hlo _ _)).trans (keeps_set ((hbx.set _ _).set _ _) hlo _ _)) ⟨p', a1, k1, b1, k2, c1, k3, hp', s5, (((hbx.set 0 (.slice a1 2 k1)).set 1 (.slice b1 2 k2)).set 2 (.slice c1 2 k3))⟩ trivial
    · intro A w' K vals h hn hT hgk hK0
      have hg : w5.grownBy w' none := keeps_old hgk
      have hK := fun v u (h1 : w'.grownBy u none) h2 => hK0 v u (Rk.keep_of h1) h2 trivial
      clear hT hgk hK0
      have r0 : A.tmps[26]?.getD undef = vals 6 := Rg.slot h.1
      clear h hn hg
      simp [Oper.wp, execOp, go_sem, r0]
      exact hK _ _ (Rg.grown_refl _ _) rfl
  · refine ⟨?_, ?_, ?_, ?_, ?_, ?_, ?_, ?_, ?_, ?_, ?_, trivial⟩
    · exact fun _ _ _ _ _ _ h => h
    · exact fun _ _ _ _ _ h ⟨p, hv, hb⟩ => ⟨p, hv, hb.other h (by decide)⟩
    · exact fun _ _ _ _ _ _ h => h
    · exact fun _ _ _ _ _ h hu => hu.other h (by decide) (by decide)
    · exact fun _ _ _ _ _ h hu => ⟨hu.1, hu.2.other h (by decide) (by decide)⟩
    · exact fun _ _ _ _ _ _ h => h
    · exact fun _ _ _ _ _ _ h => h
    · exact fun _ _ _ _ _ _ h => h
    · exact fun _ _ _ _ _ _ h => h
    · exact fun _ _ _ _ _ h ⟨p, a1, k1, b1, k2, c1, k3, h1, h2, hb⟩ => ⟨p, a1, k1, b1, k2, c1, k3, h1, h2, hb.keep (Rk.grown_of h)⟩
    · exact fun _ _ _ _ _ _ h => h
  · intro k v ds w w' hk h
    match k, h with
    | 8, h => exact ⟨h.choose, h.choose_spec.1, h.choose_spec.2.keep (Rk.grown_of hk)⟩
    | 0, _ | 1, _ | 2, _ | 3, _ | 4, _ | 5, _ | 6, _ | 7, _ | _ + 9, _ => trivial
  · intro vals w6 G hgk hS hG
    have hg := keeps_old hgk
    obtain ⟨a1, k1, b1, k2, c1, k3, x1, k4, L, s3, ho, hi⟩ : SubV w5.heap.size (vals 4) w6 := hS.2.2.2.2.1.2
    have s5 : vals 5 = tupleAt (vals 4) 0 := hS.2.2.2.2.2.1
    have s6 : vals 6 = tupleAt (vals 4) 1 := hS.2.2.2.2.2.2.1
    have s7 : vals 7 = tupleAt (vals 4) 2 := hS.2.2.2.2.2.2.2.1
    obtain ⟨q5, a1', k1', b1', k2', c1', k3', s8, s5', hb5⟩ : ∃ p a1 k1 b1 k2 c1 k3, vals 8 = .pointer (some ⟨p, 0, none⟩) ∧ vals 5 = .agg #[.slice a1 2 k1, .slice b1 2 k2, .slice c1 2 k3] ∧ Box w6 p 25 #[.slice a1 2 k1, .slice b1 2 k2, .slice c1 2 k3] := hS.2.2.2.2.2.2.2.2.2.1
    have s10 : vals 10 = vals 6 := hS.2.2.2.2.2.2.2.2.2.2.1
    clear hS
    rw [s3] at s5 s6 s7
    have s5 : vals 5 = .agg #[.slice a1 2 k1, .slice b1 2 k2, .slice c1 2 k3] := s5
    have s6 : vals 6 = .slice x1 2 k4 := s6
    have s7 : vals 7 = .bool true := s7
    rw [s5] at s5'
    simp only [Value.agg.injEq, Array.mk.injEq, List.cons.injEq, Value.slice.injEq, and_true, true_and] at s5'
    obtain ⟨⟨rfl, rfl⟩, ⟨rfl, rfl⟩, rfl, rfl⟩ := s5'
    rw [s6] at s10
    have BQ1 := Lib.hid (BQ1.out.keep (grown_of_below (below_of_grown hg) none))
    have BQ4 := Lib.hid (BQ4.out.keep (grown_of_below (below_of_grown hg) none))
    have GEX := Lib.hid (GEX.out.on (below_of_grown hg))
    have GDX := Lib.hid (GDX.out.on (below_of_grown hg))
    have T := Lib.hid (T.out.on (below_of_grown hg))
    have W := Lib.hid (W.out.trans ((below_of_grown hg).mono W.out.size))
    have BQ5 := Lib.hid hb5
    have GPX := Lib.hid (ho.game fits_pex)
    have IOLD := Lib.hid (hi.ints (by decide))
    have hsz := hg.size
    clear hb5 ho hi hgk hg
    refine hG ?_
    clear hG
    simp [Rg.putAll, Oper.wp, execOp, go_sem, s5, s6, s7, s8, s10]
    clear s3 s5 s6 s7 s8 s10
    go_wp2_with fail
    refine (right_any P.G.none _ _ (gamev_none _)).mono ?_
    rintro e w7 ⟨rfl, hb⟩
    rw [show P.G.none.right.1 = 0 by decide +kernel, show P.G.none.right.2 = 10 by decide +kernel]
    have BQ1 := Lib.hid (BQ1.out.keep (grown_of_below hb none))
    have BQ4 := Lib.hid (BQ4.out.keep (grown_of_below hb none))
    have BQ5 := Lib.hid (BQ5.out.keep (grown_of_below hb none))
    have GEX := Lib.hid (GEX.out.on hb)
    have GDX := Lib.hid (GDX.out.on hb)
    have GPX := Lib.hid (GPX.out.on hb)
    have IOLD := Lib.hid (IOLD.out.on hb)
    have T := Lib.hid (T.out.on hb)
    have W := Lib.hid (W.out.trans (hb.mono W.out.size))
    clear hb
    have b := BQ1.out
    have pc0 : w7.cell? ⟨q1, 0, none⟩ = some (.slice ao 3 ka) := b.cell 0 _ rfl
    have pc1 : w7.cell? ⟨q1, 1, none⟩ = some (.slice bo 3 kb) := b.cell 1 _ rfl
    have pc2 : w7.cell? ⟨q1, 2, none⟩ = some (.slice co 3 kc) := b.cell 2 _ rfl
    clear b
    have b := BQ4.out
    have dc0 : w7.cell? ⟨q4, 0, none⟩ = some (.slice da 3 dka) := b.cell 0 _ rfl
    have dc1 : w7.cell? ⟨q4, 1, none⟩ = some (.slice db 3 dkb) := b.cell 1 _ rfl
    have dc2 : w7.cell? ⟨q4, 2, none⟩ = some (.slice dc 3 dkc) := b.cell 2 _ rfl
    clear b
    have pl : ((w7.alloc (.cells #[.int .i64 1, .int .i64 0, .int .i64 0] 3)).alloc (.cells #[.int .i64 0, .int .i64 3, .int .i64 6] 3)).cell? ⟨q1, 2, none⟩ = some (.slice co 3 kc) := (BQ1.out.keep (allocs_grown w7 DEXL)).cell 2 _ rfl
    go_wp2_with fail
    clear pl
    refine (samegame_any DEX DEX _ _ _ (GDX.out.grown_ (allocs_grown _ DEXL)) (dex_lit _ GEX.out)).mono ?_
    rintro e w8 ⟨rfl, hb⟩
    rw [show decide (DEX = DEX) = true by decide +kernel]
    replace hb := (below_of_grown (allocs_grown w7 DEXL)).trans (hb.mono (allocs_grown w7 DEXL).size)
    have BQ1 := Lib.hid (BQ1.out.keep (grown_of_below hb none))
    have BQ4 := Lib.hid (BQ4.out.keep (grown_of_below hb none))
    have BQ5 := Lib.hid (BQ5.out.keep (grown_of_below hb none))
    have GEX := Lib.hid (GEX.out.on hb)
    have GDX := Lib.hid (GDX.out.on hb)
    have GPX := Lib.hid (GPX.out.on hb)
    have IOLD := Lib.hid (IOLD.out.on hb)
    have T := Lib.hid (T.out.on hb)
    have W := Lib.hid (W.out.trans (hb.mono W.out.size))
    clear hb pc0 pc1 pc2 dc0 dc1 dc2
    have b := BQ5.out
    have pc0 : w8.cell? ⟨q5, 0, none⟩ = some (.slice a1 2 k1) := b.cell 0 _ rfl
    have pc1 : w8.cell? ⟨q5, 1, none⟩ = some (.slice b1 2 k2) := b.cell 1 _ rfl
    have pc2 : w8.cell? ⟨q5, 2, none⟩ = some (.slice c1 2 k3) := b.cell 2 _ rfl
    clear b
    go_wp2_with fail
    refine (samegame_any PEX PEX _ _ _ (GPX.out.grown_ (allocs_grown _ (PEXL w8))) (pex_lit _)).mono ?_
    rintro e w9 ⟨rfl, hb⟩
    rw [show decide (PEX = PEX) = true by decide +kernel]
    replace hb := (below_of_grown (allocs_grown w8 (PEXL w8))).trans (hb.mono (allocs_grown w8 (PEXL w8)).size)
    have BQ1 := Lib.hid (BQ1.out.keep (grown_of_below hb none))
    have BQ4 := Lib.hid (BQ4.out.keep (grown_of_below hb none))
    have BQ5 := Lib.hid (BQ5.out.keep (grown_of_below hb none))
    have GEX := Lib.hid (GEX.out.on hb)
    have GDX := Lib.hid (GDX.out.on hb)
    have GPX := Lib.hid (GPX.out.on hb)
    have IOLD := Lib.hid (IOLD.out.on hb)
    have T := Lib.hid (T.out.on hb)
    have W := Lib.hid (W.out.trans (hb.mono W.out.size))
    clear hb pc0 pc1 pc2
    obtain ⟨x2, k5, hx, -, hxc⟩ := IOLD.out
    obtain ⟨rfl, rfl⟩ : x1 = x2 ∧ k4 = k5 := by injection hx with h1 _ h2; exact ⟨h1, h2⟩
    clear hx
    rcases hxc with hxc | ⟨ob, off, rfl, -, hxc⟩
    · cases hxc
    have oc : w9.cell? ⟨ob, off + 1, none⟩ = some (.int .i64 2) := hxc 1 (by decide)
    clear hxc
    have b := BQ1.out
    have pc0 : w9.cell? ⟨q1, 0, none⟩ = some (.slice ao 3 ka) := b.cell 0 _ rfl
    have pc1 : w9.cell? ⟨q1, 1, none⟩ = some (.slice bo 3 kb) := b.cell 1 _ rfl
    have pc2 : w9.cell? ⟨q1, 2, none⟩ = some (.slice co 3 kc) := b.cell 2 _ rfl
    clear b
    go_wp2_with fail
    refine (own_any EX _ 1 _ GEX.out).mono ?_
    rintro e wa ⟨rfl, hb⟩
    rw [show P.places 1 EX.owner EX.owner.length = S12 by decide +kernel]
    have BQ1 := Lib.hid (BQ1.out.keep (grown_of_below hb none))
    have BQ4 := Lib.hid (BQ4.out.keep (grown_of_below hb none))
    have BQ5 := Lib.hid (BQ5.out.keep (grown_of_below hb none))
    have GEX := Lib.hid (GEX.out.on hb)
    have GDX := Lib.hid (GDX.out.on hb)
    have GPX := Lib.hid (GPX.out.on hb)
    have IOLD := Lib.hid (IOLD.out.on hb)
    have T := Lib.hid (T.out.on hb)
    have W := Lib.hid (W.out.trans (hb.mono W.out.size))
    clear hb pc0 pc1 pc2 oc
    go_wp2_with fail
    refine (of_lit wa.heap.size 2 [1, 2] _ (Box.new wa _ _) rfl).mono ?_
    rintro e wb ⟨rfl, hb⟩
    rw [show P.ofL [1, 2] = S12 from rfl]
    have hb := (below_of_grown (World.grownBy_alloc wa (.cells #[.int .i64 1, .int .i64 2] 3) none)).trans (hb.mono (World.grownBy_alloc wa (.cells #[.int .i64 1, .int .i64 2] 3) none).size)
    have BQ1 := Lib.hid (BQ1.out.keep (grown_of_below hb none))
    have BQ4 := Lib.hid (BQ4.out.keep (grown_of_below hb none))
    have BQ5 := Lib.hid (BQ5.out.keep (grown_of_below hb none))
    have GEX := Lib.hid (GEX.out.on hb)
    have GDX := Lib.hid (GDX.out.on hb)
    have GPX := Lib.hid (GPX.out.on hb)
    have IOLD := Lib.hid (IOLD.out.on hb)
    have T := Lib.hid (T.out.on hb)
    have W := Lib.hid (W.out.trans (hb.mono W.out.size))
    clear hb
    have b := BQ1.out
    have pc0 : wb.cell? ⟨q1, 0, none⟩ = some (.slice ao 3 ka) := b.cell 0 _ rfl
    have pc1 : wb.cell? ⟨q1, 1, none⟩ = some (.slice bo 3 kb) := b.cell 1 _ rfl
    have pc2 : wb.cell? ⟨q1, 2, none⟩ = some (.slice co 3 kc) := b.cell 2 _ rfl
    clear b
    have es := fun w => (set_eq S12 S12 w).trans (by rw [decide_eq_true rfl])
    go_wp2_with fail
    clear es
    refine (at_any EX _ 7 _ GEX.out).mono ?_
    rintro e wc ⟨rfl, hb⟩
    rw [show P.places 7 EX.prio EX.prio.length = S2 by decide +kernel]
    have BQ1 := Lib.hid (BQ1.out.keep (grown_of_below hb none))
    have BQ4 := Lib.hid (BQ4.out.keep (grown_of_below hb none))
    have BQ5 := Lib.hid (BQ5.out.keep (grown_of_below hb none))
    have GEX := Lib.hid (GEX.out.on hb)
    have GDX := Lib.hid (GDX.out.on hb)
    have GPX := Lib.hid (GPX.out.on hb)
    have IOLD := Lib.hid (IOLD.out.on hb)
    have T := Lib.hid (T.out.on hb)
    have W := Lib.hid (W.out.trans (hb.mono W.out.size))
    clear hb pc0 pc1 pc2
    go_wp2_with fail
    refine (of_lit wc.heap.size 1 [2] _ (Box.new wc _ _) rfl).mono ?_
    rintro e wd ⟨rfl, hb⟩
    rw [show P.ofL [2] = S2 from rfl]
    have hb := (below_of_grown (World.grownBy_alloc wc (.cells #[.int .i64 2] 3) none)).trans (hb.mono (World.grownBy_alloc wc (.cells #[.int .i64 2] 3) none).size)
    have BQ1 := Lib.hid (BQ1.out.keep (grown_of_below hb none))
    have BQ4 := Lib.hid (BQ4.out.keep (grown_of_below hb none))
    have BQ5 := Lib.hid (BQ5.out.keep (grown_of_below hb none))
    have GEX := Lib.hid (GEX.out.on hb)
    have GDX := Lib.hid (GDX.out.on hb)
    have GPX := Lib.hid (GPX.out.on hb)
    have IOLD := Lib.hid (IOLD.out.on hb)
    have T := Lib.hid (T.out.on hb)
    have W := Lib.hid (W.out.trans (hb.mono W.out.size))
    clear hb
    have es := fun w => (set_eq S2 S2 w).trans (by rw [decide_eq_true rfl])
    go_wp2_with fail
    exact bodyPost_ret (v := .bool true) (by simp [results, Tryd.results12, go_sem]) rfl ⟨rfl, W.out⟩
end W
end Go.Proofs.YtlbikfimfaecnaaDoor
