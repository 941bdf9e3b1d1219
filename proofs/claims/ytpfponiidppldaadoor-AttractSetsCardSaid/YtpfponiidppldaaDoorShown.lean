/- Stage 12: the example at the head of each statement. -/
import Derived.Test.YtpfponiidppldaaDoorAttract
import Derived.Test.YtpfponiidppldaaDoorAttX
import Derived.Test.YtpfponiidppldaaDoorLiteral
import Derived.Test.YtpfponiidppldaaDoorKeep
import Derived.Test.YtpfponiidppldaaDoorOf
import Derived.Test.YtpfponiidppldaaDoorEq
import Derived.Test.YtpfponiidppldaaDoorRegionG
import Derived.Deep.RegionWith
import Derived.Deep.Cut
namespace Go.Proofs.YtpfponiidppldaaDoor
open Go.RowKit
namespace W

def EXL (w : World) : List Obj := [.cells #[.int .i64 0, .int .i64 1, .int .i64 1, .int .i64 0] 3, .cells #[.int .i64 0, .int .i64 0, .int .i64 0, .int .i64 0] 3, .cells #[.int .i64 0, .int .i64 1] 3, .cells #[.int .i64 2] 3, .cells #[.int .i64 0, .int .i64 3] 3, .cells #[.int .i64 3] 3, .cells #[.slice (some ⟨w.heap.size + 1 + 1, 0, none⟩) 2 2, .slice (some ⟨w.heap.size + 1 + 1 + 1, 0, none⟩) 1 1, .slice (some ⟨w.heap.size + 1 + 1 + 1 + 1, 0, none⟩) 2 2, .slice (some ⟨w.heap.size + 1 + 1 + 1 + 1 + 1, 0, none⟩) 1 1] 22]
theorem ex_lit (w : World) : GameV (allocs w (EXL w)) (.agg #[.slice (some ⟨w.heap.size, 0, none⟩) 4 4, .slice (some ⟨w.heap.size + 1, 0, none⟩) 4 4, .slice (some ⟨w.heap.size + 1 + 1 + 1 + 1 + 1 + 1, 0, none⟩) 4 4]) P.EX12 := by
  refine ⟨_, _, _, rfl, (allocs_box 0 rfl).ints [0, 1, 1, 0] rfl (by decide) _ _ rfl, (allocs_box 1 rfl).ints [0, 0, 0, 0] rfl (by decide) _ _ rfl, (allocs_box 6 rfl).grid [[0, 1], [2], [0, 3], [3]] rfl (by decide) (fun j x hx => ?_) _ _ rfl⟩
  match j, hx with
  | 0, hx => simp at hx; subst hx; exact (allocs_box 2 rfl).ints [0, 1] rfl (by decide) _ _ rfl
  | 1, hx => simp at hx; subst hx; exact (allocs_box 3 rfl).ints [2] rfl (by decide) _ _ rfl
  | 2, hx => simp at hx; subst hx; exact (allocs_box 4 rfl).ints [0, 3] rfl (by decide) _ _ rfl
  | 3, hx => simp at hx; subst hx; exact (allocs_box 5 rfl).ints [3] rfl (by decide) _ _ rfl
def tupleAt (v : Value) (i : Nat) : Value := match v with
  | .tuple cs => cs.getD i undef
  | _ => undef
def S012 : BitVec 256 := P.ofL [0, 1, 2]
/-- What Attract gives of the example. -/
def AtV (lo : Nat) (v : Value) (w' : World) : Prop := ∃ x k m, v = .tuple #[.agg #[.int .u64 (P.wrd S012 0), .int .u64 (P.wrd S012 1), .int .u64 (P.wrd S012 2), .int .u64 (P.wrd S012 3)], .slice x 4 k] ∧ OwnI w' lo (.slice x 4 k) m ∧ m.length = 4 ∧ m.getD 0 0 = 1 ∧ m.getD 1 0 = -1
theorem AtV.grown {lo : Nat} {v : Value} {w w' : World} (h : AtV lo v w) (hg : w.grownBy w' none) : AtV lo v w' := by
  obtain ⟨x, k, m, hv, ho, h1, h2, h3⟩ := h
  exact ⟨x, k, m, hv, own_grown ho hg, h1, h2, h3⟩
theorem AtV.low {lo lo' : Nat} {v : Value} {w : World} (h : AtV lo v w) (hl : lo' ≤ lo) : AtV lo' v w := by
  obtain ⟨x, k, m, hv, ho, h1, h2, h3⟩ := h
  exact ⟨x, k, m, hv, own_more ho hl, h1, h2, h3⟩
theorem AtV.other {lo N : Nat} {t : TypeId} {v : Value} {w w' : World} (h : AtV lo v w) (hk : Rk.Keeps (KG N t) w w') (h1 : 3 ≠ t) : AtV lo v w' := by
  obtain ⟨x, k, m, hv, ho, h2, h3, h4⟩ := h
  exact ⟨x, k, m, hv, own_other ho hk h1, h2, h3, h4⟩
theorem attract_ex (v : Value) (w : World) (hv : GameV w v P.EX12) (hT : Tab w) : Calls Tryd.prog 12 #[v, .agg #[.int .u64 (P.wrd (P.full 4) 0), .int .u64 (P.wrd (P.full 4) 1), .int .u64 (P.wrd (P.full 4) 2), .int .u64 (P.wrd (P.full 4) 3)], .int .i64 0, .agg #[.int .u64 (P.wrd (P.ofL [2]) 0), .int .u64 (P.wrd (P.ofL [2]) 1), .int .u64 (P.wrd (P.ofL [2]) 2), .int .u64 (P.wrd (P.ofL [2]) 3)]] w fun e w' => ∃ u, e = .returned u ∧ AtV w.heap.size u w' ∧ Below w.heap.size w w' :=
  (attract_any P.EX12 (P.full 4) (P.ofL [2]) 0 v w hv hT).mono fun e w' ⟨u, m, he, ho, hm, hb⟩ => by
    rw [if_pos ⟨by decide +kernel, .inl rfl⟩] at hm
    obtain ⟨h1, h2, h3⟩ := P.ex12_moves hm
    rw [P.ex12_set] at he
    obtain ⟨x, k, rfl, -⟩ := own_at ho
    rw [h1] at he ho
    exact ⟨_, he, ⟨x, k, m, rfl, ho, h1, h2, h3⟩, hb⟩
theorem GameV.grown_ {w w' : World} {v : Value} {g : P.G} (h : GameV w v g) (hg : w.grownBy w' none) : GameV w' v g := h.on (below_of_grown hg)
theorem of_lit (b n : Nat) (zs : List Int) (w : World) {cs : Array Value} (hb : Box w b 3 cs) (hcs : cs = (zs.map (Value.int .i64)).toArray) (hn : n ≤ 1000 := by decide) (hl : zs.length = n := by rfl) :
    Calls Tryd.prog 24 #[.slice (some ⟨b, 0, none⟩) n n] w fun e w' => e = .returned (.agg #[.int .u64 (P.wrd (P.ofL zs) 0), .int .u64 (P.wrd (P.ofL zs) 1), .int .u64 (P.wrd (P.ofL zs) 2), .int .u64 (P.wrd (P.ofL zs) 3)]) ∧ Below w.heap.size w w' := by
  subst hl
  have h := of_any b 0 zs.length zs.length zs w (Nat.le_refl _) (by unfold maxLen; omega) hb.lt (fun j hj => by
    rw [Nat.zero_add]
    refine hb.cell j _ ?_
    rw [hcs]
    simp [hj])
  rw [List.take_of_length_le (Nat.le_refl _)] at h
  exact h

set_option maxRecDepth 100000 in
set_option maxHeartbeats 1000000 in
theorem shown_any (w : World) (hT : Tab w) : Calls Tryd.prog 9 #[] w fun e w' => e = .returned (.bool true) ∧ Below w.heap.size w w' := by
  have HT := Lib.hid hT
  clear hT
  go_enter Tryd.func9, Tryd.ntmps9
  go_wp2_with fail
  have hbx : Box ((((((((w.alloc (.cells #[.int .i64 0, .int .i64 1, .int .i64 1, .int .i64 0] 3)).alloc (.cells #[.int .i64 0, .int .i64 0, .int .i64 0, .int .i64 0] 3)).alloc (.cells #[.int .i64 0, .int .i64 1] 3)).alloc (.cells #[.int .i64 2] 3)).alloc (.cells #[.int .i64 0, .int .i64 3] 3)).alloc (.cells #[.int .i64 3] 3)).alloc (.cells #[.slice (some ⟨w.heap.size + 1 + 1, 0, none⟩) 2 2, .slice (some ⟨w.heap.size + 1 + 1 + 1, 0, none⟩) 1 1, .slice (some ⟨w.heap.size + 1 + 1 + 1 + 1, 0, none⟩) 2 2, .slice (some ⟨w.heap.size + 1 + 1 + 1 + 1 + 1, 0, none⟩) 1 1] 22)).alloc (.cells #[.slice (some ⟨w.heap.size, 0, none⟩) 4 4, .slice (some ⟨w.heap.size + 1, 0, none⟩) 4 4, .slice (some ⟨w.heap.size + 1 + 1 + 1 + 1 + 1 + 1, 0, none⟩) 4 4] 25)) (w.heap.size + 1 + 1 + 1 + 1 + 1 + 1 + 1) 25 #[.slice (some ⟨w.heap.size, 0, none⟩) 4 4, .slice (some ⟨w.heap.size + 1, 0, none⟩) 4 4, .slice (some ⟨w.heap.size + 1 + 1 + 1 + 1 + 1 + 1, 0, none⟩) 4 4] := by
    have h := Box.new (allocs w (EXL w)) 25 #[.slice (some ⟨w.heap.size, 0, none⟩) 4 4, .slice (some ⟨w.heap.size + 1, 0, none⟩) 4 4, .slice (some ⟨w.heap.size + 1 + 1 + 1 + 1 + 1 + 1, 0, none⟩) 4 4]
    rw [allocs_size] at h
    exact h
  have hgv : GameV ((((((((w.alloc (.cells #[.int .i64 0, .int .i64 1, .int .i64 1, .int .i64 0] 3)).alloc (.cells #[.int .i64 0, .int .i64 0, .int .i64 0, .int .i64 0] 3)).alloc (.cells #[.int .i64 0, .int .i64 1] 3)).alloc (.cells #[.int .i64 2] 3)).alloc (.cells #[.int .i64 0, .int .i64 3] 3)).alloc (.cells #[.int .i64 3] 3)).alloc (.cells #[.slice (some ⟨w.heap.size + 1 + 1, 0, none⟩) 2 2, .slice (some ⟨w.heap.size + 1 + 1 + 1, 0, none⟩) 1 1, .slice (some ⟨w.heap.size + 1 + 1 + 1 + 1, 0, none⟩) 2 2, .slice (some ⟨w.heap.size + 1 + 1 + 1 + 1 + 1, 0, none⟩) 1 1] 22)).alloc (.cells #[.slice (some ⟨w.heap.size, 0, none⟩) 4 4, .slice (some ⟨w.heap.size + 1, 0, none⟩) 4 4, .slice (some ⟨w.heap.size + 1 + 1 + 1 + 1 + 1 + 1, 0, none⟩) 4 4] 25)) (.agg #[.slice (some ⟨w.heap.size, 0, none⟩) 4 4, .slice (some ⟨w.heap.size + 1, 0, none⟩) 4 4, .slice (some ⟨w.heap.size + 1 + 1 + 1 + 1 + 1 + 1, 0, none⟩) 4 4]) P.EX12 := (ex_lit w).grown_ (World.grownBy_alloc (allocs w (EXL w)) (.cells #[.slice (some ⟨w.heap.size, 0, none⟩) 4 4, .slice (some ⟨w.heap.size + 1, 0, none⟩) 4 4, .slice (some ⟨w.heap.size + 1 + 1 + 1 + 1 + 1 + 1, 0, none⟩) 4 4] 25) none)
  have hb : Below w.heap.size w ((((((((w.alloc (.cells #[.int .i64 0, .int .i64 1, .int .i64 1, .int .i64 0] 3)).alloc (.cells #[.int .i64 0, .int .i64 0, .int .i64 0, .int .i64 0] 3)).alloc (.cells #[.int .i64 0, .int .i64 1] 3)).alloc (.cells #[.int .i64 2] 3)).alloc (.cells #[.int .i64 0, .int .i64 3] 3)).alloc (.cells #[.int .i64 3] 3)).alloc (.cells #[.slice (some ⟨w.heap.size + 1 + 1, 0, none⟩) 2 2, .slice (some ⟨w.heap.size + 1 + 1 + 1, 0, none⟩) 1 1, .slice (some ⟨w.heap.size + 1 + 1 + 1 + 1, 0, none⟩) 2 2, .slice (some ⟨w.heap.size + 1 + 1 + 1 + 1 + 1, 0, none⟩) 1 1] 22)).alloc (.cells #[.slice (some ⟨w.heap.size, 0, none⟩) 4 4, .slice (some ⟨w.heap.size + 1, 0, none⟩) 4 4, .slice (some ⟨w.heap.size + 1 + 1 + 1 + 1 + 1 + 1, 0, none⟩) 4 4] 25)) := below_of_grown ((allocs_grown w (EXL w)).trans (World.grownBy_alloc (allocs w (EXL w)) (.cells #[.slice (some ⟨w.heap.size, 0, none⟩) 4 4, .slice (some ⟨w.heap.size + 1, 0, none⟩) 4 4, .slice (some ⟨w.heap.size + 1 + 1 + 1 + 1 + 1 + 1, 0, none⟩) 4 4] 25) none))
  generalize ((((((((w.alloc (.cells #[.int .i64 0, .int .i64 1, .int .i64 1, .int .i64 0] 3)).alloc (.cells #[.int .i64 0, .int .i64 0, .int .i64 0, .int .i64 0] 3)).alloc (.cells #[.int .i64 0, .int .i64 1] 3)).alloc (.cells #[.int .i64 2] 3)).alloc (.cells #[.int .i64 0, .int .i64 3] 3)).alloc (.cells #[.int .i64 3] 3)).alloc (.cells #[.slice (some ⟨w.heap.size + 1 + 1, 0, none⟩) 2 2, .slice (some ⟨w.heap.size + 1 + 1 + 1, 0, none⟩) 1 1, .slice (some ⟨w.heap.size + 1 + 1 + 1 + 1, 0, none⟩) 2 2, .slice (some ⟨w.heap.size + 1 + 1 + 1 + 1 + 1, 0, none⟩) 1 1] 22)).alloc (.cells #[.slice (some ⟨w.heap.size, 0, none⟩) 4 4, .slice (some ⟨w.heap.size + 1, 0, none⟩) 4 4, .slice (some ⟨w.heap.size + 1 + 1 + 1 + 1 + 1 + 1, 0, none⟩) 4 4] 25)) = w1 at hbx hgv hb ⊢
  generalize (w.heap.size + 1 + 1 + 1 + 1 + 1 + 1 + 1) = q1 at hbx ⊢
  generalize (some ⟨w.heap.size + 1 + 1 + 1 + 1 + 1 + 1, 0, none⟩ : Option Addr) = co at hbx hgv ⊢
  generalize (some ⟨w.heap.size + 1, 0, none⟩ : Option Addr) = bo at hbx hgv ⊢
  generalize (some ⟨w.heap.size, 0, none⟩ : Option Addr) = ao at hbx hgv ⊢
  have BQ1 := Lib.hid hbx
  have GEX := Lib.hid hgv
  have W := Lib.hid hb
  have T := Lib.hid (HT.out.on hb)
  clear hbx hgv hb HT
  refine Rk.wp_region_lit (fun idx => match idx with | 0 => (fun v _ _ => v = .agg #[.slice ao 4 4, .slice bo 4 4, .slice co 4 4]) | 1 => (fun v _ _ => v = .agg #[.int .u64 (P.wrd (P.full 4) 0), .int .u64 (P.wrd (P.full 4) 1), .int .u64 (P.wrd (P.full 4) 2), .int .u64 (P.wrd (P.full 4) 3)]) | 2 => (fun v _ w' => ∃ p, v = .slice (some ⟨p, 0, none⟩) 1 1 ∧ Box w' p 3 #[.int .i64 2]) | 3 => (fun v _ _ => v = .agg #[.int .u64 (P.wrd (P.ofL [2]) 0), .int .u64 (P.wrd (P.ofL [2]) 1), .int .u64 (P.wrd (P.ofL [2]) 2), .int .u64 (P.wrd (P.ofL [2]) 3)]) | 4 => (fun v _ w' => AtV w1.heap.size v w') | 5 => (fun v ds w' => v = ds.getD 0 undef ∧ AtV w1.heap.size v w') | 6 => (fun v ds _ => v = tupleAt (ds.getD 0 undef) 0) | 7 => (fun v ds _ => v = tupleAt (ds.getD 0 undef) 1) | 8 => (fun v _ _ => ∃ p, v = .pointer (some ⟨p, 0, none⟩) ∧ w1.heap.size ≤ p) | 9 => (fun _ ds w' => ∃ p, ds.getD 0 undef = .pointer (some ⟨p, 0, none⟩) ∧ Box w' p 28 #[.int .u64 (P.wrd S012 0), .int .u64 (P.wrd S012 1), .int .u64 (P.wrd S012 2), .int .u64 (P.wrd S012 3)]) | _ => fun _ _ _ => True) (fun idx => match idx with | 8 => (fun v _ w' => ∃ p, v = .pointer (some ⟨p, 0, none⟩) ∧ Box w' p 28 #[.int .u64 0, .int .u64 0, .int .u64 0, .int .u64 0]) | _ => fun _ _ _ => True) (KG w1.heap.size 28) 9 (by kernel_rfl) (by rfl) (by kernel_rfl) (by rfl) ?_ ?_ ?_ ?_
  · refine ⟨?_, ?_, ?_, ?_, ?_, ?_, ?_, ?_, ?_, ?_, trivial⟩
    · intro A w' K vals h hn hT hgk hK0
      have hg : w1.grownBy w' none := keeps_old hgk
      have hK := fun v u (h1 : w'.grownBy u none) h2 => hK0 v u (Rk.keep_of h1) h2 trivial
      clear hT hgk hK0
      have r0 : A.tmps[1]?.getD undef = .pointer (some ⟨q1, 0, none⟩) := Rg.slot h.1
      have b := BQ1.out.keep hg
      have cc0 : w'.cell? ⟨q1, 0, none⟩ = some (.slice ao 4 4) := b.cell 0 _ rfl
      have cc1 : w'.cell? ⟨q1, 1, none⟩ = some (.slice bo 4 4) := b.cell 1 _ rfl
      have cc2 : w'.cell? ⟨q1, 2, none⟩ = some (.slice co 4 4) := b.cell 2 _ rfl
      clear h hn hg b
      simp [Oper.wp, execOp, go_sem, r0, cc0, cc1, cc2]
      exact hK _ _ (Rg.grown_refl _ _) rfl
    · intro A w' K vals h hn hT hgk hK0
      have hg : w1.grownBy w' none := keeps_old hgk
      have hK := fun v u (h1 : w'.grownBy u none) h2 => hK0 v u (Rk.keep_of h1) h2 trivial
      clear hT hgk hK0
      clear h hn
      simp [Oper.wp, go_sem]
      refine (full_any 4 w').mono ?_
      rintro e w'' ⟨rfl, hb⟩
      exact hK _ _ (grown_of_below hb _) rfl
    · intro A w' K vals h hn hT hgk hK0
      have hg : w1.grownBy w' none := keeps_old hgk
      have hK := fun v u (h1 : w'.grownBy u none) h2 => hK0 v u (Rk.keep_of h1) h2 trivial
      clear hT hgk hK0
      clear h hn hg
      simp [Oper.wp, execOp, go_sem]
      exact hK _ _ (World.grownBy_alloc _ _ _) ⟨_, rfl, Box.new _ _ _⟩
    · intro A w' K vals h hn hT hgk hK0
      have hg : w1.grownBy w' none := keeps_old hgk
      have hK := fun v u (h1 : w'.grownBy u none) h2 => hK0 v u (Rk.keep_of h1) h2 trivial
      clear hT hgk hK0
      have r0 : A.tmps[15]?.getD undef = vals 2 := Rg.slot h.2.1
      obtain ⟨p, hv, hbp⟩ : ∃ p, vals 2 = .slice (some ⟨p, 0, none⟩) 1 1 ∧ Box w' p 3 #[.int .i64 2] := hn.1
      clear h hn
      simp [Oper.wp, go_sem, r0, hv]
      refine (of_lit p 1 [2] w' hbp rfl (by decide)).mono ?_
      rintro e w'' ⟨rfl, hb⟩
      exact hK _ _ (grown_of_below hb _) rfl
    · intro A w' K vals h hn hT hgk hK0
      have hg : w1.grownBy w' none := keeps_old hgk
      have hK := fun v u (h1 : w'.grownBy u none) h2 => hK0 v u (Rk.keep_of h1) h2 trivial
      clear hT hgk hK0
      have r0 : A.tmps[13]?.getD undef = vals 0 := Rg.slot h.2.1
      have r1 : A.tmps[14]?.getD undef = vals 1 := Rg.slot h.2.2.1
      have r2 : A.tmps[16]?.getD undef = vals 3 := Rg.slot h.2.2.2.2.1
      have s0 : vals 0 = .agg #[.slice ao 4 4, .slice bo 4 4, .slice co 4 4] := hn.1
      have s1 : vals 1 = .agg #[.int .u64 (P.wrd (P.full 4) 0), .int .u64 (P.wrd (P.full 4) 1), .int .u64 (P.wrd (P.full 4) 2), .int .u64 (P.wrd (P.full 4) 3)] := hn.2.1
      have s2 : vals 3 = .agg #[.int .u64 (P.wrd (P.ofL [2]) 0), .int .u64 (P.wrd (P.ofL [2]) 1), .int .u64 (P.wrd (P.ofL [2]) 2), .int .u64 (P.wrd (P.ofL [2]) 3)] := hn.2.2.1
      clear h hn
      simp [Oper.wp, go_sem, r0, r1, r2, s0, s1, s2]
      refine (attract_ex (.agg #[.slice ao 4 4, .slice bo 4 4, .slice co 4 4]) w' (GEX.out.grown_ hg) (T.out.on (below_of_grown hg))).mono ?_
      rintro e w'' ⟨u, rfl, hu, hb⟩
      exact hK _ _ (grown_of_below hb _) (hu.low hg.size)
    · intro A w' K vals h hn hT hgk hK0
      have hg : w1.grownBy w' none := keeps_old hgk
      have hK := fun v u (h1 : w'.grownBy u none) h2 => hK0 v u (Rk.keep_of h1) h2 trivial
      clear hT hgk hK0
      have r0 : A.tmps[17]?.getD undef = vals 4 := Rg.slot h.1
      have n3 : AtV w1.heap.size (vals 4) w' := hn.1
      clear h hn hg
      simp [Oper.wp, execOp, go_sem, r0]
      exact hK _ _ (Rg.grown_refl _ _) ⟨rfl, n3⟩
    · intro A w' K vals h hn hT hgk hK0
      have hg : w1.grownBy w' none := keeps_old hgk
      have hK := fun v u (h1 : w'.grownBy u none) h2 => hK0 v u (Rk.keep_of h1) h2 trivial
      clear hT hgk hK0
      have r0 : A.tmps[12]?.getD undef = vals 5 := Rg.slot h.1
      obtain ⟨x, k, m, hv, -⟩ : AtV w1.heap.size (vals 5) w' := hn.1.2
      clear h hn hg
      simp [Oper.wp, execOp, go_sem, r0, hv]
      refine hK _ _ (Rg.grown_refl _ _) ?_
      show _ = tupleAt (vals 5) 0
      rw [hv]
      rfl
    · intro A w' K vals h hn hT hgk hK0
      have hg : w1.grownBy w' none := keeps_old hgk
      have hK := fun v u (h1 : w'.grownBy u none) h2 => hK0 v u (Rk.keep_of h1) h2 trivial
      clear hT hgk hK0
      have r0 : A.tmps[12]?.getD undef = vals 5 := Rg.slot h.1
      obtain ⟨x, k, m, hv, -⟩ : AtV w1.heap.size (vals 5) w' := hn.1.2
      clear h hn hg
      simp [Oper.wp, execOp, go_sem, r0, hv]
      refine hK _ _ (Rg.grown_refl _ _) ?_
      show _ = tupleAt (vals 5) 1
      rw [hv]
      rfl
    · intro A w' K vals h hn hT hgk hK0
      clear h hn hT
      simp [Oper.wp, execOp, go_sem]
      exact hK0 _ _ (Rk.keep_of (World.grownBy_alloc _ _ _)) ⟨_, rfl, hgk.size⟩ ⟨_, rfl, Box.new _ _ _⟩
    · intro A w' K vals h hn hT hgk hK0
      have r0 : A.tmps[2]?.getD undef = vals 8 := Rg.slot h.1
      have r1 : A.tmps[18]?.getD undef = vals 6 := Rg.slot h.2.1
      obtain ⟨p, hp, hbx⟩ : ∃ p, vals 8 = .pointer (some ⟨p, 0, none⟩) ∧ Box w' p 28 #[.int .u64 0, .int .u64 0, .int .u64 0, .int .u64 0] := (hT rfl).1
      obtain ⟨p', hp', hlo⟩ : ∃ p, vals 8 = .pointer (some ⟨p, 0, none⟩) ∧ w1.heap.size ≤ p := hn.1
      have s6 : vals 6 = tupleAt (vals 5) 0 := hn.2.1
      obtain ⟨x, k, m, s5, -⟩ : AtV w1.heap.size (vals 5) w' := hn.2.2.2.2.2.2.2.2.1.2
      rw [s5] at s6
      have s6 : vals 6 = .agg #[.int .u64 (P.wrd S012 0), .int .u64 (P.wrd S012 1), .int .u64 (P.wrd S012 2), .int .u64 (P.wrd S012 3)] := s6
      obtain rfl : p' = p := by rw [hp'] at hp; injection hp with hp; injection hp with hp; injection hp with hp
      clear h hn hT s5
      have qc0 : w'.cell? ⟨p', 0, none⟩ = some (.int .u64 0) := hbx.cell 0 _ rfl
      have qc1 : w'.cell? ⟨p', 1, none⟩ = some (.int .u64 0) := hbx.cell 1 _ rfl
      have qc2 : w'.cell? ⟨p', 2, none⟩ = some (.int .u64 0) := hbx.cell 2 _ rfl
      have qc3 : w'.cell? ⟨p', 3, none⟩ = some (.int .u64 0) := hbx.cell 3 _ rfl
      have qf0 : w'.frozen? ⟨p', 0, none⟩ = false := hbx.frozen 0
      have qf1 : w'.frozen? ⟨p', 1, none⟩ = false := hbx.frozen 1
      have qf2 : w'.frozen? ⟨p', 2, none⟩ = false := hbx.frozen 2
      have qf3 : w'.frozen? ⟨p', 3, none⟩ = false := hbx.frozen 3
      simp [Oper.wp, execOp, go_sem, r0, r1, hp', s6, qc0, qc1, qc2, qc3, qf0, qf1, qf2, qf3]
      refine hK0 undef _ ((((keeps_set hbx hlo _ _).trans (keeps_set (hbx.set _ _) hlo _ _)).trans (keeps_set ((hbx.set _ _).set _ _) hlo _ _)).trans (keeps_set (((hbx.set _ _).set _ _).set _ _) hlo _ _)) ⟨p', hp', ((((hbx.set 0 (.int .u64 (P.wrd S012 0))).set 1 (.int .u64 (P.wrd S012 1))).set 2 (.int .u64 (P.wrd S012 2))).set 3 (.int .u64 (P.wrd S012 3)))⟩ trivial
  · refine ⟨?_, ?_, ?_, ?_, ?_, ?_, ?_, ?_, ?_, ?_, trivial⟩
    · exact fun _ _ _ _ _ _ h => h
    · exact fun _ _ _ _ _ _ h => h
    · exact fun _ _ _ _ _ h ⟨p, hv, hb⟩ => ⟨p, hv, hb.other h (by decide)⟩
    · exact fun _ _ _ _ _ _ h => h
    · exact fun _ _ _ _ _ h hu => hu.other h (by decide)
    · exact fun _ _ _ _ _ h hu => ⟨hu.1, hu.2.other h (by decide)⟩
    · exact fun _ _ _ _ _ _ h => h
    · exact fun _ _ _ _ _ _ h => h
    · exact fun _ _ _ _ _ _ h => h
    · exact fun _ _ _ _ _ h ⟨p, h1, hb⟩ => ⟨p, h1, hb.keep (Rk.grown_of h)⟩
  · intro k v ds w w' hk h
    match k, h with
    | 8, h => exact ⟨h.choose, h.choose_spec.1, h.choose_spec.2.keep (Rk.grown_of hk)⟩
    | 0, _ | 1, _ | 2, _ | 3, _ | 4, _ | 5, _ | 6, _ | 7, _ | _ + 9, _ => trivial
  · intro vals w6 G hgk hS hG
    have hg := keeps_old hgk
    obtain ⟨x, k, m, s5, ho, hm1, hm2, hm3⟩ : AtV w1.heap.size (vals 5) w6 := hS.2.2.2.2.2.1.2
    have s7 : vals 7 = tupleAt (vals 5) 1 := hS.2.2.2.2.2.2.2.1
    obtain ⟨q5, s8, hb5⟩ : ∃ p, vals 8 = .pointer (some ⟨p, 0, none⟩) ∧ Box w6 p 28 #[.int .u64 (P.wrd S012 0), .int .u64 (P.wrd S012 1), .int .u64 (P.wrd S012 2), .int .u64 (P.wrd S012 3)] := hS.2.2.2.2.2.2.2.2.2.1
    clear hS
    rw [s5] at s7
    have s7 : vals 7 = .slice x 4 k := s7
    replace W := Lib.hid (W.out.trans ((below_of_grown hg).mono W.out.size))
    have ho4 : w6.ownsRow w1.heap.size 3 1 (.slice x 4 k) 4 (m.map (Value.int .i64)) := by
      unfold OwnI at ho
      rw [hm1] at ho
      exact ho
    obtain ⟨b, k2, e9, -, hblt, hbc, -⟩ := own_form ho4 (by decide)
    obtain ⟨rfl, -⟩ : x = some ⟨b, 0, none⟩ ∧ k = k2 := by injection e9 with h1 h2 h3; exact ⟨h1, h3⟩
    have d0 : w6.cell? ⟨b, 0, none⟩ = some (.int .i64 1) := hbc 0 _ (by rw [List.getElem?_map, List.getElem?_eq_getElem (by omega)]; rw [List.getD_eq_getElem?_getD, List.getElem?_eq_getElem (by omega)] at hm2; rw [← hm2]; rfl)
    have d1 : w6.cell? ⟨b, 1, none⟩ = some (.int .i64 (-1)) := hbc 1 _ (by rw [List.getElem?_map, List.getElem?_eq_getElem (by omega)]; rw [List.getD_eq_getElem?_getD, List.getElem?_eq_getElem (by omega)] at hm3; rw [← hm3]; rfl)
    have HD0 := Lib.hid d0
    have HD1 := Lib.hid d1
    have HBL := Lib.hid hblt
    have BQ5 := Lib.hid hb5
    clear hb5 ho ho4 e9 hbc hm1 hm2 hm3 hgk hg d0 d1 hblt
    refine hG ?_
    clear hG
    simp [Rg.putAll, Oper.wp, execOp, go_sem, s5, s7, s8]
    clear s5 s7 s8
    go_upto_region 3 with (fail)
    have HQ5L := Lib.hid BQ5.out.lt
    have e012 := fun w => (set_eq S012 S012 w).trans (by rw [decide_eq_true rfl])
    refine Rt.wp_region_tail 19 (fun idx => match idx with | 0 => (fun v _ _ => v = .agg #[.int .u64 (P.wrd S012 0), .int .u64 (P.wrd S012 1), .int .u64 (P.wrd S012 2), .int .u64 (P.wrd S012 3)]) | 1 => (fun v _ w' => ∃ p, v = .slice (some ⟨p, 0, none⟩) 3 3 ∧ Box w' p 3 #[.int .i64 0, .int .i64 1, .int .i64 2]) | 2 => (fun v _ _ => v = .agg #[.int .u64 (P.wrd S012 0), .int .u64 (P.wrd S012 1), .int .u64 (P.wrd S012 2), .int .u64 (P.wrd S012 3)]) | _ => fun _ _ _ => True) (fun _ _ _ _ => True) (Rk.allK) 99 (by kernel_rfl) (by rfl) (by kernel_rfl) (by rfl) ?_ ?_ ?_ ?_
    · refine ⟨?_, ?_, ?_, trivial⟩
      · intro A w' K vals h hn hT hgk hK0
        have hg : w6.grownBy w' none := Rk.grown_of hgk
        have hK := fun v u (h1 : w'.grownBy u none) h2 => hK0 v u (Rk.keep_of h1) h2 trivial
        clear hT hgk hK0
        have r0 : A.tmps[2]?.getD undef = .pointer (some ⟨q5, 0, none⟩) := Rg.slot h.1
        have bs := BQ5.out.keep hg
        have cc0 : w'.cell? ⟨q5, 0, none⟩ = some (.int .u64 (P.wrd S012 0)) := bs.cell 0 _ rfl
        have cc1 : w'.cell? ⟨q5, 1, none⟩ = some (.int .u64 (P.wrd S012 1)) := bs.cell 1 _ rfl
        have cc2 : w'.cell? ⟨q5, 2, none⟩ = some (.int .u64 (P.wrd S012 2)) := bs.cell 2 _ rfl
        have cc3 : w'.cell? ⟨q5, 3, none⟩ = some (.int .u64 (P.wrd S012 3)) := bs.cell 3 _ rfl
        clear h hn hg bs
        simp [Oper.wp, execOp, go_sem, r0, cc0, cc1, cc2, cc3]
        exact hK _ _ (Rg.grown_refl _ _) rfl
      · intro A w' K vals h hn hT hgk hK0
        have hg : w6.grownBy w' none := Rk.grown_of hgk
        have hK := fun v u (h1 : w'.grownBy u none) h2 => hK0 v u (Rk.keep_of h1) h2 trivial
        clear hT hgk hK0
        clear h hn hg
        simp [Oper.wp, execOp, go_sem]
        exact hK _ _ (World.grownBy_alloc _ _ _) ⟨_, rfl, Box.new _ _ _⟩
      · intro A w' K vals h hn hT hgk hK0
        have hg : w6.grownBy w' none := Rk.grown_of hgk
        have hK := fun v u (h1 : w'.grownBy u none) h2 => hK0 v u (Rk.keep_of h1) h2 trivial
        clear hT hgk hK0
        have r0 : A.tmps[21]?.getD undef = vals 1 := Rg.slot h.2.1
        obtain ⟨p, hv, hbp⟩ : ∃ p, vals 1 = .slice (some ⟨p, 0, none⟩) 3 3 ∧ Box w' p 3 #[.int .i64 0, .int .i64 1, .int .i64 2] := hn.1
        clear h hn
        simp [Oper.wp, go_sem, r0, hv]
        refine (of_lit p 3 [0, 1, 2] w' hbp rfl (by decide)).mono ?_
        rintro e w'' ⟨rfl, hb⟩
        exact hK _ _ (grown_of_below hb _) rfl
    · refine ⟨?_, ?_, ?_, trivial⟩
      · exact fun _ _ _ _ _ _ h => h
      · exact fun _ _ _ _ _ h ⟨p, hv, hb⟩ => ⟨p, hv, hb.keep (Rk.grown_of h)⟩
      · exact fun _ _ _ _ _ _ h => h
    · exact fun _ _ _ _ _ _ h => h
    · intro vals w7 G hgk hS hG
      have hg := Rk.grown_of hgk
      have s0 : vals 0 = .agg #[.int .u64 (P.wrd S012 0), .int .u64 (P.wrd S012 1), .int .u64 (P.wrd S012 2), .int .u64 (P.wrd S012 3)] := hS.1
      have s2 : vals 2 = .agg #[.int .u64 (P.wrd S012 0), .int .u64 (P.wrd S012 1), .int .u64 (P.wrd S012 2), .int .u64 (P.wrd S012 3)] := hS.2.2.1
      have d0 := hg.cell HD0.out (by simp)
      have d1 := hg.cell HD1.out (by simp)
      replace W := Lib.hid (W.out.trans ((below_of_grown hg).mono W.out.size))
      clear hS hgk hg
      refine hG ?_
      clear hG
      simp only [List.take, List.drop, List.length, Nat.reduceSub, Nat.reduceAdd, Rg.putAll, s0, s2]
      clear s0 s2
      go_wp2_with fail
      exact bodyPost_ret (v := .bool true) (by simp [results, Tryd.results9, go_sem]) rfl ⟨rfl, W.out⟩
end W
end Go.Proofs.YtpfponiidppldaaDoor
