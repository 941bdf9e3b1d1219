/- The part of a game: the program's. -/
import Derived.Test.YtpjmboonaciplaaDoorDual
import Derived.Test.YtpjmboonaciplaaDoorPts
import Derived.Test.YtpjmboonaciplaaDoorBuild
import Derived.Test.YtpjmboonaciplaaDoorList
import Derived.Test.YtpjmboonaciplaaDoorLeaf4
import Derived.Test.YtpjmboonaciplaaDoorOwA
import Derived.StillTailTactics
namespace Go.Proofs.YtpjmboonaciplaaDoor
open Go.RowKit
namespace W

def Subbed (w : World) (g : P.G) (s : BitVec 256) (e : Ending) (w' : World) : Prop :=
  if g.has s then ∃ a b c L v, e = .returned (.tuple #[.agg #[a, b, c], v, .bool true]) ∧ OwnG w' w.heap.size a b c L (g.part s) ∧ OwnI w' w.heap.size v ((g.old s).map fun (i : Nat) => (i : Int)) ∧ Below w.heap.size w w'
  else e = .returned (.tuple #[.agg #[.slice none 0 0, .slice none 0 0, .slice none 0 0], .slice none 0 0, .bool false]) ∧ Below w.heap.size w w'
def zeros : Array Value := Array.replicate 256 (.int .i64 0)
theorem zeros_size : zeros.size = 256 := by unfold zeros; simp
theorem zero_arr (w : World) : (zeroValue 70).run Tryd.prog w = .ok (.agg zeros) w := by kernel_rfl
/-- The numbers of positions, as far as they are given. -/
structure Num (cs : Array Value) (ol : List Nat) (k : Nat) : Prop where
  size : cs.size = 256
  at_ : ∀ j (h : j < ol.length), j < k → cs[ol[j]]? = some (.int .i64 (j : Int))
theorem Num.step {cs : Array Value} {ol : List Nat} {k : Nat} (h : Num cs ol k) (hn : ol.Nodup) (k' : Nat) (hk : k' < ol.length) (hb : ol[k'] < 256) (e : k' = k := by rfl) : Num (cs.setIfInBounds ol[k'] (.int .i64 (k' : Int))) ol (k' + 1) := by
  subst e
  refine ⟨by simpa using h.size, fun j hj hjk => ?_⟩
  by_cases hjk2 : j = k'
  · subst hjk2
    simp [h.size, hb]
  · have hne : ol[k'] ≠ ol[j] := fun e => (List.pairwise_iff_getElem.1 hn) j k' hj hk (by omega) e.symm
    rw [Array.getElem?_setIfInBounds_ne hne]
    exact h.at_ j hj (by omega)
structure RelN (w3 : World) (qn : Nat) (ol : List Nat) (i : Value) (wr : World) (k : Nat) (cs : Array Value) : Prop where
  le : k ≤ ol.length
  eq : i = .int .i64 k
  box : Box wr qn 70 cs
  num : Num cs ol k
  grown : w3.grownBy wr (some qn)
/-- The part, as far as it is built. -/
structure RelS (w5 : World) (qs : Nat) (g : P.G) (s : BitVec 256) (ol : List Nat) (i : Value) (wr : World) (k : Nat) (A B C : Value) (L : List Value) : Prop where
  le : k ≤ ol.length
  eq : i = .int .i64 k
  box : Box wr qs 25 #[A, B, C]
  built : Built wr w5.heap.size A B C L (g.partTo s ol k)
  grown : w5.grownBy wr (some qs)
  full : ∀ j (h : j < ol.length), j < k → (g.moves.getD ol[j] []).filter (P.has s) ≠ []
/-- The moves of a position, as far as they are gone through. -/
structure RelI (wr : World) (s : BitVec 256) (ol : List Nat) (l : List Int) (v i : Value) (wi : World) (j : Nat) : Prop where
  le : j ≤ l.length
  eq : i = .int .i64 j
  own : OwnI wi wr.heap.size v (P.renum ol s (l.take j))
  below : Below wr.heap.size wr wi
theorem grown_mix {w5 w0 w2 : World} {qs : Nat} {row : Option Nat} (h : w5.grownBy w0 (some qs)) (hg : w0.grownBy w2 row) (hr : ∀ p, row = some p → w5.heap.size ≤ p) : w5.grownBy w2 (some qs) :=
  ⟨hg.os.trans h.os, hg.tape.trans h.tape, hg.output.trans h.output, Nat.le_trans h.size hg.size, fun i hi hne => (hg.block i (Nat.lt_of_lt_of_le hi h.size) (fun e => by have := hr i e.symm; omega)).trans (h.block i hi hne)⟩
theorem vals_eq (l : List Nat) : (l.map fun (i : Nat) => (i : Int)).map (Value.int .i64) = P.vals l := by unfold P.vals; rw [List.map_map]; rfl

set_option maxRecDepth 100000 in
set_option maxHeartbeats 1000000 in
theorem sub_bad (g : P.G) (s : BitVec 256) (v : Value) (w : World) (hv : GameV w v g) (hok : g.ok = false) : Calls Tryd.prog 26 #[v, .agg #[.int .u64 (P.wrd s 0), .int .u64 (P.wrd s 1), .int .u64 (P.wrd s 2), .int .u64 (P.wrd s 3)]] w (Subbed w g s) := by
  have HSUB := Lib.hid (show g.has s = false by unfold P.G.has; rw [hok]; rfl)
  have hq0 : g.right.2 ≠ 0 := by unfold P.G.ok at hok; exact beq_eq_false_iff_ne.1 hok
  clear hok
  have HV := Lib.hid hv
  obtain ⟨a, b, c, rfl, ha, hb, ⟨co, cc, rfl, hzc, hc⟩⟩ := hv
  have HA := Lib.hid ha
  have HB := Lib.hid hb
  have HC := Lib.hid hc
  clear ha hb hc
  obtain ⟨n, hn⟩ : ∃ n, g.moves.length = n := ⟨_, rfl⟩
  rw [hn] at hzc HV
  rw [hn]
  have HN := Lib.hid hn
  clear hn
  go_enter Tryd.func26, Tryd.ntmps26
  go_wp2_with fail
  have B0 : Box (((w.alloc (.cells #[a, b, .slice co n cc] 25)).alloc (.cells #[.int .u64 (P.wrd s 0), .int .u64 (P.wrd s 1), .int .u64 (P.wrd s 2), .int .u64 (P.wrd s 3)] 45)).alloc (.cells #[.slice none 0 0, .slice none 0 0, .slice none 0 0] 25)) w.heap.size 25 #[a, b, .slice co n cc] := ((Box.new w _ _).alloc _).alloc _
  have BS : Box (((w.alloc (.cells #[a, b, .slice co n cc] 25)).alloc (.cells #[.int .u64 (P.wrd s 0), .int .u64 (P.wrd s 1), .int .u64 (P.wrd s 2), .int .u64 (P.wrd s 3)] 45)).alloc (.cells #[.slice none 0 0, .slice none 0 0, .slice none 0 0] 25)) (w.heap.size + 1) 45 #[.int .u64 (P.wrd s 0), .int .u64 (P.wrd s 1), .int .u64 (P.wrd s 2), .int .u64 (P.wrd s 3)] := by
    have := (Box.new (w.alloc (.cells #[a, b, .slice co n cc] 25)) 45 #[.int .u64 (P.wrd s 0), .int .u64 (P.wrd s 1), .int .u64 (P.wrd s 2), .int .u64 (P.wrd s 3)]).alloc (.cells #[.slice none 0 0, .slice none 0 0, .slice none 0 0] 25)
    simpa using this
  have B1 : Box (((w.alloc (.cells #[a, b, .slice co n cc] 25)).alloc (.cells #[.int .u64 (P.wrd s 0), .int .u64 (P.wrd s 1), .int .u64 (P.wrd s 2), .int .u64 (P.wrd s 3)] 45)).alloc (.cells #[.slice none 0 0, .slice none 0 0, .slice none 0 0] 25)) (w.heap.size + 1 + 1) 25 #[.slice none 0 0, .slice none 0 0, .slice none 0 0] := by
    have := Box.new ((w.alloc (.cells #[a, b, .slice co n cc] 25)).alloc (.cells #[.int .u64 (P.wrd s 0), .int .u64 (P.wrd s 1), .int .u64 (P.wrd s 2), .int .u64 (P.wrd s 3)] 45)) 25 #[.slice none 0 0, .slice none 0 0, .slice none 0 0]
    simpa using this
  have hb0 : Below w.heap.size w (((w.alloc (.cells #[a, b, .slice co n cc] 25)).alloc (.cells #[.int .u64 (P.wrd s 0), .int .u64 (P.wrd s 1), .int .u64 (P.wrd s 2), .int .u64 (P.wrd s 3)] 45)).alloc (.cells #[.slice none 0 0, .slice none 0 0, .slice none 0 0] 25)) := (((Below.refl _ w).alloc (Nat.le_refl _) _).alloc (by simp) _).alloc (by simp; omega) _
  have hs0 : (((w.alloc (.cells #[a, b, .slice co n cc] 25)).alloc (.cells #[.int .u64 (P.wrd s 0), .int .u64 (P.wrd s 1), .int .u64 (P.wrd s 2), .int .u64 (P.wrd s 3)] 45)).alloc (.cells #[.slice none 0 0, .slice none 0 0, .slice none 0 0] 25)).heap.size = w.heap.size + 1 + 1 + 1 := by simp
  generalize (((w.alloc (.cells #[a, b, .slice co n cc] 25)).alloc (.cells #[.int .u64 (P.wrd s 0), .int .u64 (P.wrd s 1), .int .u64 (P.wrd s 2), .int .u64 (P.wrd s 3)] 45)).alloc (.cells #[.slice none 0 0, .slice none 0 0, .slice none 0 0] 25)) = W at B0 BS B1 hb0 hs0 ⊢
  have HB0 := Lib.hid B0
  have HBS := Lib.hid BS
  have HB1 := Lib.hid B1
  have HG := Lib.hid hb0
  have HS := Lib.hid hs0
  clear B0 BS B1 hb0 hs0
  refine (right_any g _ _ (HV.out.on HG.out)).mono ?_
  rintro e w1 ⟨rfl, hb1⟩
  have HB1W := Lib.hid hb1
  obtain ⟨z, hz⟩ : ∃ z, g.right.2 = z := ⟨_, rfl⟩
  rw [hz] at hq0 ⊢
  have fq : (((z : Nat) : Int) != 0) = true := by rw [bne_iff_ne]; omega
  clear hz hq0 hb1
  have bb1 := HB1.out.keep (grown_of_below HB1W.out none)
  have qc0 : w1.cell? ⟨(w.heap.size + 1 + 1), 0, none⟩ = some (.slice none 0 0) := bb1.cell 0 _ rfl
  have qc1 : w1.cell? ⟨(w.heap.size + 1 + 1), 1, none⟩ = some (.slice none 0 0) := bb1.cell 1 _ rfl
  have qc2 : w1.cell? ⟨(w.heap.size + 1 + 1), 2, none⟩ = some (.slice none 0 0) := bb1.cell 2 _ rfl
  have qf0 : w1.frozen? ⟨(w.heap.size + 1 + 1), 0, none⟩ = false := bb1.frozen 0
  have qf1 : w1.frozen? ⟨(w.heap.size + 1 + 1), 1, none⟩ = false := bb1.frozen 1
  have qf2 : w1.frozen? ⟨(w.heap.size + 1 + 1), 2, none⟩ = false := bb1.frozen 2
  have HPO : Hid (Below w.heap.size w (((w1.setCell ⟨w.heap.size + 1 + 1, 0, none⟩ (.slice none 0 0)).setCell ⟨w.heap.size + 1 + 1, 1, none⟩ (.slice none 0 0)).setCell ⟨w.heap.size + 1 + 1, 2, none⟩ (.slice none 0 0))) := Lib.hid ((((HG.out.trans (HB1W.out.mono (by have := HS.out; omega))).setCell (p := ⟨w.heap.size + 1 + 1, 0, none⟩) (by show w.heap.size ≤ w.heap.size + 1 + 1; omega) (.slice none 0 0)).setCell (p := ⟨w.heap.size + 1 + 1, 1, none⟩) (by show w.heap.size ≤ w.heap.size + 1 + 1; omega) (.slice none 0 0)).setCell (p := ⟨w.heap.size + 1 + 1, 2, none⟩) (by show w.heap.size ≤ w.heap.size + 1 + 1; omega) (.slice none 0 0))
  clear bb1
  go_wp2_with fail
  refine bodyPost_ret (v := .tuple #[.agg #[.slice none 0 0, .slice none 0 0, .slice none 0 0], .slice none 0 0, .bool false]) (by simp [results, Tryd.results26, go_sem, qc0, qc1, qc2]) rfl ?_
  unfold Subbed
  rw [HSUB.out]
  exact ⟨rfl, HPO.out⟩

set_option maxRecDepth 100000 in
set_option maxHeartbeats 1000000 in
theorem sub_ok (g : P.G) (s : BitVec 256) (v : Value) (w : World) (hv : GameV w v g) (hT : Tab w) (hok : g.ok = true) : Calls Tryd.prog 26 #[v, .agg #[.int .u64 (P.wrd s 0), .int .u64 (P.wrd s 1), .int .u64 (P.wrd s 2), .int .u64 (P.wrd s 3)]] w (Subbed w g s) := by
  have HT := Lib.hid hT
  have HRT := Lib.hid ((P.G.ok_iff g).1 hok)
  have hq0 : g.right.2 = 0 := by unfold P.G.ok at hok; exact beq_iff_eq.1 hok
  have HK := Lib.hid hok
  have HV := Lib.hid hv
  clear hT hok
  have hop : g.prio.length = g.owner.length := HRT.out.prio
  have hmp : g.moves.length = g.owner.length := HRT.out.moves
  have hmany : g.owner.length ≤ 200 := HRT.out.many
  obtain ⟨m, hm⟩ : ∃ m, g.owner.length = m := ⟨_, rfl⟩
  rw [hm] at hop hmp hmany
  obtain ⟨a, b, c, rfl, ha, hb, hc⟩ := hv
  obtain ⟨ao, ka, rfl, hza, hac⟩ := ha
  obtain ⟨bo, kb, rfl, hzb, hbc⟩ := hb
  obtain ⟨co, kc, rfl, hzc, hcc⟩ := hc
  rw [hm, hop, hmp] at HV ⊢
  rw [hm] at hac
  rw [hop] at hbc
  rw [hmp] at hcc
  have HM := Lib.hid hm
  have HP := Lib.hid hop
  have HMP := Lib.hid hmp
  have HAC := Lib.hid hac
  have HBC := Lib.hid hbc
  have HCC := Lib.hid hcc
  clear hm hop hmp hac hbc hcc hza hzb hzc
  obtain ⟨ol, hol⟩ : ∃ ol, g.old s = ol := ⟨_, rfl⟩
  have HOL := Lib.hid hol
  have hol256 : ol.length ≤ 256 := by rw [← hol]; exact P.lst_length _
  clear hol
  go_enter Tryd.func26, Tryd.ntmps26
  go_wp2_with fail
  have B0 : Box (((w.alloc (.cells #[.slice ao m ka, .slice bo m kb, .slice co m kc] 25)).alloc (.cells #[.int .u64 (P.wrd s 0), .int .u64 (P.wrd s 1), .int .u64 (P.wrd s 2), .int .u64 (P.wrd s 3)] 45)).alloc (.cells #[.slice none 0 0, .slice none 0 0, .slice none 0 0] 25)) w.heap.size 25 #[.slice ao m ka, .slice bo m kb, .slice co m kc] := ((Box.new w _ _).alloc _).alloc _
  have BS : Box (((w.alloc (.cells #[.slice ao m ka, .slice bo m kb, .slice co m kc] 25)).alloc (.cells #[.int .u64 (P.wrd s 0), .int .u64 (P.wrd s 1), .int .u64 (P.wrd s 2), .int .u64 (P.wrd s 3)] 45)).alloc (.cells #[.slice none 0 0, .slice none 0 0, .slice none 0 0] 25)) (w.heap.size + 1) 45 #[.int .u64 (P.wrd s 0), .int .u64 (P.wrd s 1), .int .u64 (P.wrd s 2), .int .u64 (P.wrd s 3)] := by
    have := (Box.new (w.alloc (.cells #[.slice ao m ka, .slice bo m kb, .slice co m kc] 25)) 45 #[.int .u64 (P.wrd s 0), .int .u64 (P.wrd s 1), .int .u64 (P.wrd s 2), .int .u64 (P.wrd s 3)]).alloc (.cells #[.slice none 0 0, .slice none 0 0, .slice none 0 0] 25)
    simpa using this
  have B1 : Box (((w.alloc (.cells #[.slice ao m ka, .slice bo m kb, .slice co m kc] 25)).alloc (.cells #[.int .u64 (P.wrd s 0), .int .u64 (P.wrd s 1), .int .u64 (P.wrd s 2), .int .u64 (P.wrd s 3)] 45)).alloc (.cells #[.slice none 0 0, .slice none 0 0, .slice none 0 0] 25)) (w.heap.size + 1 + 1) 25 #[.slice none 0 0, .slice none 0 0, .slice none 0 0] := by
    have := Box.new ((w.alloc (.cells #[.slice ao m ka, .slice bo m kb, .slice co m kc] 25)).alloc (.cells #[.int .u64 (P.wrd s 0), .int .u64 (P.wrd s 1), .int .u64 (P.wrd s 2), .int .u64 (P.wrd s 3)] 45)) 25 #[.slice none 0 0, .slice none 0 0, .slice none 0 0]
    simpa using this
  have hb0 : Below w.heap.size w (((w.alloc (.cells #[.slice ao m ka, .slice bo m kb, .slice co m kc] 25)).alloc (.cells #[.int .u64 (P.wrd s 0), .int .u64 (P.wrd s 1), .int .u64 (P.wrd s 2), .int .u64 (P.wrd s 3)] 45)).alloc (.cells #[.slice none 0 0, .slice none 0 0, .slice none 0 0] 25)) := (((Below.refl _ w).alloc (Nat.le_refl _) _).alloc (by simp) _).alloc (by simp; omega) _
  have hs0 : (((w.alloc (.cells #[.slice ao m ka, .slice bo m kb, .slice co m kc] 25)).alloc (.cells #[.int .u64 (P.wrd s 0), .int .u64 (P.wrd s 1), .int .u64 (P.wrd s 2), .int .u64 (P.wrd s 3)] 45)).alloc (.cells #[.slice none 0 0, .slice none 0 0, .slice none 0 0] 25)).heap.size = w.heap.size + 1 + 1 + 1 := by simp
  generalize (((w.alloc (.cells #[.slice ao m ka, .slice bo m kb, .slice co m kc] 25)).alloc (.cells #[.int .u64 (P.wrd s 0), .int .u64 (P.wrd s 1), .int .u64 (P.wrd s 2), .int .u64 (P.wrd s 3)] 45)).alloc (.cells #[.slice none 0 0, .slice none 0 0, .slice none 0 0] 25)) = W at B0 BS B1 hb0 hs0 ⊢
  have HB0 := Lib.hid B0
  have HBS := Lib.hid BS
  have HB1 := Lib.hid B1
  have HG := Lib.hid hb0
  have HS := Lib.hid hs0
  clear B0 BS B1 hb0 hs0
  refine (right_any g _ _ (HV.out.on HG.out)).mono ?_
  rintro e w1 ⟨rfl, hb1⟩
  have HB1W := Lib.hid hb1
  obtain ⟨z, hz⟩ : ∃ z, g.right.2 = z := ⟨_, rfl⟩
  rw [hz] at hq0 ⊢
  have fq : (((z : Nat) : Int) != 0) = false := by rw [bne_eq_false_iff_eq]; omega
  clear hz hq0 hb1
  go_wp2_with fail
  refine Rg.wp_region_lit (fun idx => match idx with | 0 => (fun v _ _ => v = .agg #[.int .u64 (P.wrd s 0), .int .u64 (P.wrd s 1), .int .u64 (P.wrd s 2), .int .u64 (P.wrd s 3)]) | 1 => (fun v _ _ => v = (.pointer (some ⟨w.heap.size, 0, none⟩))) | 2 => (fun v _ _ => v = (.slice ao m ka)) | 3 => (fun v _ _ => v = (.int .i64 (m : Int))) | 4 => (fun v _ _ => v = .agg #[.int .u64 (P.wrd (P.full (m : Int)) 0), .int .u64 (P.wrd (P.full (m : Int)) 1), .int .u64 (P.wrd (P.full (m : Int)) 2), .int .u64 (P.wrd (P.full (m : Int)) 3)]) | 5 => (fun v _ _ => v = .agg #[.int .u64 (P.wrd (s &&& P.full (m : Int)) 0), .int .u64 (P.wrd (s &&& P.full (m : Int)) 1), .int .u64 (P.wrd (s &&& P.full (m : Int)) 2), .int .u64 (P.wrd (s &&& P.full (m : Int)) 3)]) | 6 => (fun v _ w' => w'.ownsRow w1.heap.size 3 1 v ol.length (P.vals ol)) | _ => fun _ _ _ => True) (none) 99 (by kernel_rfl) (by rfl) (by kernel_rfl) (by rfl) ?_ ?_ ?_
  · refine ⟨?_, ?_, ?_, ?_, ?_, ?_, ?_, trivial⟩
    · intro A w' K vals h hn hg hK
      have r0 : A.tmps[3]?.getD undef = .pointer (some ⟨w.heap.size + 1, 0, none⟩) := Rg.slot h.1
      have bs := (HBS.out.keep (grown_of_below HB1W.out none)).keep hg
      have cc0 : w'.cell? ⟨(w.heap.size + 1), 0, none⟩ = some (.int .u64 (P.wrd s 0)) := bs.cell 0 _ rfl
      have cc1 : w'.cell? ⟨(w.heap.size + 1), 1, none⟩ = some (.int .u64 (P.wrd s 1)) := bs.cell 1 _ rfl
      have cc2 : w'.cell? ⟨(w.heap.size + 1), 2, none⟩ = some (.int .u64 (P.wrd s 2)) := bs.cell 2 _ rfl
      have cc3 : w'.cell? ⟨(w.heap.size + 1), 3, none⟩ = some (.int .u64 (P.wrd s 3)) := bs.cell 3 _ rfl
      clear h hn hg bs
      simp [Oper.wp, execOp, go_sem, r0, cc0, cc1, cc2, cc3]
      exact hK _ _ (Rg.grown_refl _ _) rfl
    · intro A w' K vals h hn hg hK
      have r0 : A.tmps[2]?.getD undef = (.pointer (some ⟨w.heap.size, 0, none⟩)) := Rg.slot (h.1)
      clear h hn hg
      simp [Oper.wp, execOp, go_sem, r0]
      exact hK _ _ (Rg.grown_refl _ _) rfl
    · intro A w' K vals h hn hg hK
      have r0 : A.tmps[28]?.getD undef = vals 1 := Rg.slot h.1
      have r1 : vals 1 = (.pointer (some ⟨w.heap.size, 0, none⟩)) := hn.1
      have c : w'.cell? ⟨w.heap.size, 0, none⟩ = some (.slice ao m ka) := ((HB0.out.keep (grown_of_below HB1W.out none)).keep hg).cell _ _ rfl
      clear h hn
      simp [Oper.wp, execOp, go_sem, r0, r1, c]
      exact hK _ _ (Rg.grown_refl _ _) rfl
    · intro A w' K vals h hn hg hK
      have r0 : A.tmps[29]?.getD undef = vals 2 := Rg.slot h.1
      have r1 : vals 2 = .slice ao m ka := hn.1
      clear h hn hg
      simp [Oper.wp, go_sem, r0, r1]
      exact hK _ _ (Rg.grown_refl _ _) rfl
    · intro A w' K vals h hn hg hK
      have r0 : A.tmps[30]?.getD undef = vals 3 := Rg.slot h.2.1
      have s0 : vals 3 = (.int .i64 (m : Int)) := hn.1
      clear h hn
      simp [Oper.wp, go_sem, r0, s0]
      refine (full_any (m : Int) w').mono ?_
      rintro e w'' ⟨rfl, hb⟩
      exact hK _ _ (grown_of_below hb _) rfl
    · intro A w' K vals h hn hg hK
      have r0 : A.tmps[27]?.getD undef = vals 0 := Rg.slot h.2.1
      have s0 : vals 0 = .agg #[.int .u64 (P.wrd s 0), .int .u64 (P.wrd s 1), .int .u64 (P.wrd s 2), .int .u64 (P.wrd s 3)] := hn.1
      have r1 : A.tmps[31]?.getD undef = vals 4 := Rg.slot h.2.2.1
      have s1 : vals 4 = .agg #[.int .u64 (P.wrd (P.full (m : Int)) 0), .int .u64 (P.wrd (P.full (m : Int)) 1), .int .u64 (P.wrd (P.full (m : Int)) 2), .int .u64 (P.wrd (P.full (m : Int)) 3)] := hn.2.1
      clear h hn
      simp [Oper.wp, go_sem, r0, s0, r1, s1]
      refine (and_any s (P.full (m : Int)) w').mono ?_
      rintro e w'' ⟨rfl, hb⟩
      exact hK _ _ (grown_of_below hb _) rfl
    · intro A w' K vals h hn hg hK
      have r0 : A.tmps[32]?.getD undef = vals 5 := Rg.slot h.2.1
      have s0 : vals 5 = .agg #[.int .u64 (P.wrd (s &&& P.full (m : Int)) 0), .int .u64 (P.wrd (s &&& P.full (m : Int)) 1), .int .u64 (P.wrd (s &&& P.full (m : Int)) 2), .int .u64 (P.wrd (s &&& P.full (m : Int)) 3)] := hn.1
      clear h hn
      simp [Oper.wp, go_sem, r0, s0]
      refine (list_any (s &&& P.full (m : Int)) w' (((HT.out.on HG.out).on (HB1W.out.mono (Nat.le_refl _))).on (below_of_grown hg))).mono ?_
      rintro e w'' ⟨v, rfl, ho, hb⟩
      rw [show P.lst (s &&& P.full (m : Int)) = ol by rw [← HOL.out]; unfold P.G.old; rw [HM.out]] at ho
      exact hK _ _ (grown_of_below hb _) (own_more ho hg.size)
  · refine ⟨?_, ?_, ?_, ?_, ?_, ?_, ?_, trivial⟩
    · exact fun _ _ _ _ _ _ h => h
    · exact fun _ _ _ _ _ _ h => h
    · exact fun _ _ _ _ _ _ h => h
    · exact fun _ _ _ _ _ _ h => h
    · exact fun _ _ _ _ _ _ h => h
    · exact fun _ _ _ _ _ _ h => h
    · exact fun _ _ _ _ _ h ho => own_grown ho h
  · intro vals w2 G hg hS hG
    have s6 : w2.ownsRow w1.heap.size 3 1 (vals 6) ol.length (P.vals ol) := hS.2.2.2.2.2.2.1
    clear hS
    obtain ⟨a9, k9, e9, -⟩ := own_at s6
    rw [e9] at s6
    have H9 := Lib.hid s6
    have HB2 := Lib.hid (HB1W.out.trans ((below_of_grown hg).mono HB1W.out.size))
    clear s6 hg
    refine hG ?_
    clear hG
    simp [List.dropLast, Rg.putAll, Oper.wp, execOp, go_sem, e9]
    clear e9
    by_cases hl0 : ol.length = 0
    · have f0 : (((ol.length : Nat) : Int) == 0) = true := by rw [beq_iff_eq]; omega
      have HSUB := Lib.hid (show g.has s = false by unfold P.G.has; rw [HOL.out, List.eq_nil_of_length_eq_zero hl0]; simp)
      clear hl0
      have bb1 := HB1.out.keep (grown_of_below HB2.out none)
      have qc0 : w2.cell? ⟨(w.heap.size + 1 + 1), 0, none⟩ = some (.slice none 0 0) := bb1.cell 0 _ rfl
      have qc1 : w2.cell? ⟨(w.heap.size + 1 + 1), 1, none⟩ = some (.slice none 0 0) := bb1.cell 1 _ rfl
      have qc2 : w2.cell? ⟨(w.heap.size + 1 + 1), 2, none⟩ = some (.slice none 0 0) := bb1.cell 2 _ rfl
      have qf0 : w2.frozen? ⟨(w.heap.size + 1 + 1), 0, none⟩ = false := bb1.frozen 0
      have qf1 : w2.frozen? ⟨(w.heap.size + 1 + 1), 1, none⟩ = false := bb1.frozen 1
      have qf2 : w2.frozen? ⟨(w.heap.size + 1 + 1), 2, none⟩ = false := bb1.frozen 2
      have HPO : Hid (Below w.heap.size w (((w2.setCell ⟨w.heap.size + 1 + 1, 0, none⟩ (.slice none 0 0)).setCell ⟨w.heap.size + 1 + 1, 1, none⟩ (.slice none 0 0)).setCell ⟨w.heap.size + 1 + 1, 2, none⟩ (.slice none 0 0))) := Lib.hid ((((HG.out.trans (HB2.out.mono (by have := HS.out; omega))).setCell (p := ⟨w.heap.size + 1 + 1, 0, none⟩) (by show w.heap.size ≤ w.heap.size + 1 + 1; omega) (.slice none 0 0)).setCell (p := ⟨w.heap.size + 1 + 1, 1, none⟩) (by show w.heap.size ≤ w.heap.size + 1 + 1; omega) (.slice none 0 0)).setCell (p := ⟨w.heap.size + 1 + 1, 2, none⟩) (by show w.heap.size ≤ w.heap.size + 1 + 1; omega) (.slice none 0 0))
      clear bb1
      go_wp2_with fail
      refine bodyPost_ret (v := .tuple #[.agg #[.slice none 0 0, .slice none 0 0, .slice none 0 0], .slice none 0 0, .bool false]) (by simp [results, Tryd.results26, go_sem, qc0, qc1, qc2]) rfl ?_
      unfold Subbed
      rw [HSUB.out]
      exact ⟨rfl, HPO.out⟩
    · have f0 : (((ol.length : Nat) : Int) == 0) = false := by rw [beq_eq_false_iff_ne]; omega
      have hz63 := zero_arr
      have hpos : 0 < ol.length := by omega
      obtain ⟨q9, k9', e9, hq9a, hq9b, -, -⟩ := own_form H9.out hpos
      obtain ⟨rfl, -⟩ : a9 = some ⟨q9, 0, none⟩ ∧ k9 = k9' := by injection e9 with h1 h2 h3; exact ⟨h1, h3⟩
      have HQ9 := Lib.hid hq9b
      have HQ9A := Lib.hid hq9a
      clear hl0 e9 hq9a hq9b
      go_wp2_with fail
      clear hz63
      have bn : Box (w2.alloc (.cells zeros 70)) w2.heap.size 70 zeros := Box.new _ _ _
      have h93 := own_grown H9.out (World.grownBy_alloc w2 (.cells zeros 70) none)
      have hb3 := HB2.out.alloc (show W.heap.size ≤ w2.heap.size from HB2.out.size) (.cells zeros 70)
      have hq0 : W.heap.size ≤ w2.heap.size := HB2.out.size
      have hlt3 : w2.heap.size < (w2.alloc (.cells zeros 70)).heap.size := by simp
      have hq9n : q9 < w2.heap.size := HQ9.out
      generalize (w2.alloc (.cells zeros 70)) = w3 at bn h93 hb3 hlt3 ⊢
      generalize w2.heap.size = qn at bn hq0 hlt3 hq9n ⊢
      have BN := Lib.hid bn
      have H93 := Lib.hid h93
      have HB3 := Lib.hid hb3
      have HQN := Lib.hid hq0
      have HL3 := Lib.hid hlt3
      have HQ9N := Lib.hid hq9n
      clear bn h93 hb3 hq0 hlt3 hq9n
      go_loopw [40] (fun i wr => ∃ k cs, RelN w3 qn ol i wr k cs) (fun i _ => ol.length - (intOf i).toNat)
      case atStart => exact ⟨0, zeros, Nat.zero_le _, rfl, BN.out, ⟨zeros_size, fun j h => by omega⟩, Rg.grown_refl _ _⟩
      case round =>
        obtain ⟨k, cs, hR⟩ := hrel
        have hk := hR.le
        obtain rfl := hR.eq
        have hj0 : (0 : Int) ≤ (k : Int) := Int.natCast_nonneg _
        have HR := Lib.hid hR
        clear hR
        have hnb : (Value.slice (some ⟨q9, 0, none⟩) ol.length k9).ownBlock ≠ some qn := by
          intro e
          have e2 : q9 = qn := by simpa [Value.ownBlock] using e
          have := HQ9N.out
          omega
        have HNB := Lib.hid hnb
        clear hnb
        by_cases hlt : k < ol.length
        · have fj : decide ((k : Int) < (ol.length : Int)) = true := decide_eq_true (by omega)
          have hki : (k : Int) < (ol.length : Int) := by omega
          have hown := own_kept H93.out HR.out.grown (.inr HNB.out)
          have cx : wr.cell? ⟨q9, k, none⟩ = some (.int .i64 ((ol[k] : Nat) : Int)) := by
            rw [hown.cellAt k (by omega)]
            unfold P.vals
            rw [List.getElem?_map, List.getElem?_eq_getElem hlt]
            rfl
          have hat : ol[k] ∈ g.old s := by rw [HOL.out]; exact List.getElem_mem hlt
          have hat2 := (P.old_lt g s _ hat).2
          obtain ⟨at_, hate⟩ : ∃ x, ol[k] = x := ⟨_, rfl⟩
          rw [hate] at cx hat2
          have h256 : (at_ : Int) < 256 := by omega
          have h2560 : (0 : Int) ≤ (at_ : Int) := by omega
          have hbn := HR.out.box
          have hcs : at_ < cs.size := by rw [HR.out.num.size]; exact hat2
          obtain ⟨y, cy⟩ : ∃ y, wr.cell? ⟨qn, at_, none⟩ = some y := ⟨_, hbn.cell at_ _ (Array.getElem?_eq_getElem hcs)⟩
          have fy : wr.frozen? ⟨qn, at_, none⟩ = false := hbn.frozen at_
          have HREL := Lib.hid (show RelN w3 qn ol (.int .i64 ((k + 1 : Nat) : Int)) (wr.setCell ⟨qn, at_, none⟩ (.int .i64 (k : Int))) (k + 1) (cs.setIfInBounds at_ (.int .i64 (k : Int))) from
            ⟨by omega, rfl, hbn.set at_ _, by rw [← hate]; exact HR.out.num.step (by rw [← HOL.out]; exact P.old_nodup g s) k hlt (by rw [hate]; exact hat2), HR.out.grown.trans (grown_set _ _ _)⟩)
          clear hown hat hate hbn hcs
          go_wp2_with fail
          go_roundw
          case rel => exact ⟨k + 1, _, HREL.out⟩
          case measure => simp [intOf]; omega
        · have fj : decide ((k : Int) < (ol.length : Int)) = false := decide_eq_false (by omega)
          have hkl : k = ol.length := by omega
          have HKL := Lib.hid hkl
          clear hkl
          go_wp2_with fail
          have bs : Box (wr.alloc (.cells #[.slice none 0 0, .slice none 0 0, .slice none 0 0] 25)) wr.heap.size 25 #[.slice none 0 0, .slice none 0 0, .slice none 0 0] := Box.new _ _ _
          have bn := HR.out.box.alloc (.cells #[.slice none 0 0, .slice none 0 0, .slice none 0 0] 25)
          have hg5 : w3.grownBy (wr.alloc (.cells #[.slice none 0 0, .slice none 0 0, .slice none 0 0] 25)) (some qn) := HR.out.grown.trans (World.grownBy_alloc _ _ _)
          have hqs : w3.heap.size ≤ wr.heap.size := HR.out.grown.size
          have hl5 : wr.heap.size < (wr.alloc (.cells #[.slice none 0 0, .slice none 0 0, .slice none 0 0] 25)).heap.size := by simp
          have hnum := HR.out.num
          rw [HKL.out] at hnum
          generalize (wr.alloc (.cells #[.slice none 0 0, .slice none 0 0, .slice none 0 0] 25)) = w5 at bs bn hg5 hl5 ⊢
          generalize wr.heap.size = qs at bs hqs hl5 ⊢
          have BS5 := Lib.hid bs
          have BN5 := Lib.hid bn
          have HG5 := Lib.hid hg5
          have HQS := Lib.hid hqs
          have HL5 := Lib.hid hl5
          have HNUM := Lib.hid hnum
          have H95 := Lib.hid (own_kept H93.out hg5 (.inr HNB.out))
          have HB5 := Lib.hid (HB3.out.trans (below_mono_grown hg5 (B := W.heap.size) (HB3.out.size) (by intro p hp; injection hp with hp; have := HQN.out; omega)))
          clear bs bn hg5 hqs hl5 hnum hlt fj
          clear HR HKL
          go_loopw [51] (fun i wr => ∃ k A B C L, RelS w5 qs g s ol i wr k A B C L) (fun i _ => ol.length - (intOf i).toNat)
          case atStart => exact ⟨0, _, _, _, _, Nat.zero_le _, rfl, BS5.out, by rw [P.G.partTo_zero]; exact Built.start _ _, Rg.grown_refl _ _, fun j _ h => by omega⟩
          case round =>
            obtain ⟨wo, rfl⟩ : ∃ wo : World, wo = wr := ⟨_, rfl⟩
            obtain ⟨k, A, B, C, L, hR⟩ := hrel
            have hk := hR.le
            obtain rfl := hR.eq
            have hj0 : (0 : Int) ≤ (k : Int) := Int.natCast_nonneg _
            have HR := Lib.hid hR
            clear hR
            have HBW := Lib.hid (HB5.out.trans (below_mono_grown HR.out.grown (B := W.heap.size) HB5.out.size (by intro p hp; injection hp with hp; have := HQS.out; have := HL3.out; have := HQN.out; omega)))
            have HBWW := Lib.hid (HG.out.trans (HBW.out.mono (by have := HS.out; omega)))
            have hq9s : (Value.slice (some ⟨q9, 0, none⟩) ol.length k9).ownBlock ≠ some qs := by
              intro e
              have e2 : q9 = qs := by simpa [Value.ownBlock] using e
              have := HQ9N.out
              have := HL3.out
              have := HQS.out
              omega
            have H9R := Lib.hid (own_kept H95.out HR.out.grown (.inr hq9s))
            have HNR := Lib.hid (BN5.out.grown HR.out.grown (by intro e; injection e with e; have := HL3.out; have := HQS.out; omega))
            clear hq9s
            have b0 := HB0.out.keep (grown_of_below HBW.out none)
            have HB0R := Lib.hid b0
            have HBSR := Lib.hid (HBS.out.keep (grown_of_below HBW.out none))
            have HL5R : Hid (w5.heap.size ≤ wo.heap.size) := Lib.hid HR.out.grown.size
            by_cases hlt : k < ol.length
            · have fj : decide ((k : Int) < (ol.length : Int)) = true := decide_eq_true (by omega)
              have hki : (k : Int) < (ol.length : Int) := by omega
              have cx : wo.cell? ⟨q9, k, none⟩ = some (.int .i64 ((ol[k] : Nat) : Int)) := by
                rw [H9R.out.cellAt k (by omega)]
                unfold P.vals
                rw [List.getElem?_map, List.getElem?_eq_getElem hlt]
                rfl
              have hmem : ol[k] ∈ g.old s := by rw [HOL.out]; exact List.getElem_mem hlt
              have hatm := (P.old_lt g s _ hmem).1
              rw [HM.out] at hatm
              obtain ⟨at_, hate⟩ : ∃ x, ol[k] = x := ⟨_, rfl⟩
              rw [hate] at cx hatm hmem
              have HATE := Lib.hid hate
              have HMEM := Lib.hid hmem
              have hati : (at_ : Int) < (m : Int) := by omega
              have hati0 : (0 : Int) ≤ (at_ : Int) := by omega
              obtain ⟨bc, oc, rfl, lc, hcc⟩ := HCC.out.resolve_left (fun e => by have := HMP.out; rw [e] at this; simp at this; omega)
              obtain ⟨ba, oa, rfl, la, hca⟩ := HAC.out.resolve_left (fun e => by have := HM.out; rw [e] at this; simp at this; omega)
              obtain ⟨bb, ob, rfl, lb, hcb⟩ := HBC.out.resolve_left (fun e => by have := HP.out; rw [e] at this; simp at this; omega)
              obtain ⟨xv, cxv, hxv⟩ := hcc at_ hatm
              have hrt := HRT.out.at at_ (by rw [HM.out]; exact hatm)
              obtain ⟨l, hl⟩ : ∃ l, g.moves.getD at_ [] = l := ⟨_, rfl⟩
              obtain ⟨zo, hzo⟩ : ∃ zo, g.owner.getD at_ 0 = zo := ⟨_, rfl⟩
              obtain ⟨zp, hzp⟩ : ∃ zp, g.prio.getD at_ 0 = zp := ⟨_, rfl⟩
              rw [hl, HM.out] at hrt
              rw [hl] at hxv
              obtain ⟨-, -, -, hlne, hrise⟩ := hrt
              obtain ⟨xo, xk, rfl, hxz, hxc⟩ := hxv
              obtain ⟨bx, ox, rfl, lx, hcx⟩ := hxc.resolve_left hlne
              have hlb : l.length ≤ 200 := P.rise_len hrise hmany
              have HCA : Hid (w.cell? ⟨ba, oa + at_, none⟩ = some (.int .i64 zo)) := Lib.hid (by rw [← hzo]; exact hca at_ hatm)
              have HCB : Hid (w.cell? ⟨bb, ob + at_, none⟩ = some (.int .i64 zp)) := Lib.hid (by rw [← hzp]; exact hcb at_ hatm)
              have HCX := Lib.hid hcx
              have HLX := Lib.hid lx
              have HLA := Lib.hid la
              have HLB := Lib.hid lb
              have HRISE := Lib.hid hrise
              have HL := Lib.hid hl
              have HZO := Lib.hid hzo
              have HZP := Lib.hid hzp
              have c2 : wo.cell? ⟨bc, oc + at_, none⟩ = some (.slice (some ⟨bx, ox, none⟩) l.length xk) := (HBWW.out.cell (p := ⟨bc, oc + at_, none⟩) lc).trans cxv
              have b0 := HB0R.out
              have pc0 : wo.cell? ⟨w.heap.size, 0, none⟩ = some (.slice (some ⟨ba, oa, none⟩) m ka) := b0.cell 0 _ rfl
              have pc1 : wo.cell? ⟨w.heap.size, 1, none⟩ = some (.slice (some ⟨bb, ob, none⟩) m kb) := b0.cell 1 _ rfl
              have pc2 : wo.cell? ⟨w.heap.size, 2, none⟩ = some (.slice (some ⟨bc, oc, none⟩) m kc) := b0.cell 2 _ rfl
              clear hate hmem lc hcc la hca lb hcb cxv hl hzo hzp hlne hrise hxz hxc lx hcx b0
              go_wp2_with fail
              clear c2 cx pc0 pc1 pc2
              go_loopw [16, 61] (fun v i wr => ∃ j, RelI wo s ol l v i wr j) (fun _ i _ => l.length - (intOf i).toNat)
              case atStart => exact ⟨0, Nat.zero_le _, rfl, OwnI.nil _ _, Below.refl _ _⟩
              case round =>
                obtain ⟨j, hI⟩ := hrel
                have hjl := hI.le
                obtain rfl := hI.eq
                have hj1 : (0 : Int) ≤ (j : Int) := Int.natCast_nonneg _
                have HI := Lib.hid hI
                clear hI
                by_cases hlj : j < l.length
                · have fjl : decide ((j : Int) < (l.length : Int)) = true := decide_eq_true (by omega)
                  have hji : (j : Int) < (l.length : Int) := by omega
                  have hcell := HCX.out j hlj
                  have hmb := P.rise_bounds HRISE.out (l.getD j 0) (by rw [List.getD_eq_getElem?_getD, List.getElem?_eq_getElem hlj]; exact List.getElem_mem hlj)
                  have htake : l.take (j + 1) = l.take j ++ [l.getD j 0] := by
                    rw [List.take_succ_eq_append_getElem hlj, List.getD_eq_getElem?_getD, List.getElem?_eq_getElem hlj]
                    rfl
                  obtain ⟨mz, hmz⟩ : ∃ mz, l.getD j 0 = mz := ⟨_, rfl⟩
                  rw [hmz] at hcell hmb htake
                  obtain ⟨mn, rfl⟩ := Int.eq_ofNat_of_zero_le (show 0 ≤ mz by omega)
                  have hmn : mn < m := by omega
                  have HT1 := Lib.hid htake
                  have hbwi := HBWW.out.trans (HI.out.below.mono HBWW.out.size)
                  have cj : wr.cell? ⟨bx, ox + j, none⟩ = some (.int .i64 (mn : Int)) := (hbwi.cell (p := ⟨bx, ox + j, none⟩) HLX.out).trans hcell
                  have HMN := Lib.hid hmn
                  have bs := HBSR.out.keep (grown_of_below HI.out.below none)
                  have tc0 : wr.cell? ⟨(w.heap.size + 1), 0, none⟩ = some (.int .u64 (P.wrd s 0)) := bs.cell 0 _ rfl
                  have tc1 : wr.cell? ⟨(w.heap.size + 1), 1, none⟩ = some (.int .u64 (P.wrd s 1)) := bs.cell 1 _ rfl
                  have tc2 : wr.cell? ⟨(w.heap.size + 1), 2, none⟩ = some (.int .u64 (P.wrd s 2)) := bs.cell 2 _ rfl
                  have tc3 : wr.cell? ⟨(w.heap.size + 1), 3, none⟩ = some (.int .u64 (P.wrd s 3)) := bs.cell 3 _ rfl
                  clear hmb htake hmz hcell hbwi bs hmn
                  go_wp2_with fail
                  refine (has_any s (mn : Int) _).mono ?_
                  rintro e w6 ⟨rfl, hb6⟩
                  have HB6 := Lib.hid hb6
                  obtain ⟨hs, hhs⟩ : ∃ hs, P.has s (mn : Int) = hs := ⟨_, rfl⟩
                  rw [hhs]
                  have HHS := Lib.hid hhs
                  clear hhs hb6 tc0 tc1 tc2 tc3 cj
                  cases hs with
                  | false =>
                    have HREL := Lib.hid (show RelI wo s ol l (_) (.int .i64 ((j + 1 : Nat) : Int)) w6 (j + 1) from
                      ⟨by omega, rfl, by rw [HT1.out, P.renum_snoc, if_neg (by rw [HHS.out]; decide)]; exact own_grown HI.out.own (grown_of_below HB6.out none), HI.out.below.trans (HB6.out.mono HI.out.below.size)⟩)
                    go_wp2_with fail
                    go_roundw
                    case rel => exact ⟨j + 1, HREL.out⟩
                    case measure => simp [intOf]; omega
                  | true =>
                    have hin : mn ∈ ol := by
                      rw [← HOL.out]
                      have h1 := HHS.out
                      unfold P.has at h1
                      simp only [Bool.and_eq_true, Int.toNat_natCast] at h1
                      exact P.mem_old g s mn (by rw [HM.out]; exact HMN.out) (by have := HMN.out; omega) h1.2
                    have hix := List.idxOf_lt_length_of_mem hin
                    have hnm := HNUM.out.at_ (ol.idxOf mn) hix hix
                    rw [List.getElem_idxOf hix] at hnm
                    obtain ⟨ix, hixe⟩ : ∃ ix, ol.idxOf mn = ix := ⟨_, rfl⟩
                    rw [hixe] at hnm
                    have bn6 := (HNR.out.keep (grown_of_below HI.out.below none)).keep (grown_of_below HB6.out none)
                    have cn : w6.cell? ⟨qn, mn, none⟩ = some (.int .i64 (ix : Int)) := bn6.cell mn _ hnm
                    have hm256 : (mn : Int) < 256 := by have := HMN.out; omega
                    have hm0 : (0 : Int) ≤ (mn : Int) := Int.natCast_nonneg _
                    have HIX := Lib.hid hixe
                    have ho6 := own_grown HI.out.own (grown_of_below HB6.out none)
                    have HO6 := Lib.hid ho6
                    have hrl : (P.renum ol s (l.take j)).length ≤ 200 := by have := P.renum_length ol s (l.take j); rw [List.length_take] at this; omega
                    clear hin hix hnm hixe bn6 ho6
                    go_wp2_with (at_builtin; refine wpl_append elInt rfl (.tmp 68) (.tmp 72) rfl rfl (own_grown HO6.out (World.grownBy_alloc _ _ none)) rfl (row_one _ _ _) ?_ ?_ ?_ ?_ ?_)
                    · intro u hu; simp at hu; subst hu; rfl
                    · simp; omega
                    · simp; omega
                    · have := HI.out.below.size; have := HB6.out.size; simp; omega
                    intro v' w7 hown hgr hat
                    have HREL := Lib.hid (show RelI wo s ol l v' (.int .i64 ((j + 1 : Nat) : Int)) w7 (j + 1) from
                      ⟨by omega, rfl, by
                        rw [HT1.out, P.renum_snoc, if_pos HHS.out, Int.toNat_natCast, HIX.out]
                        unfold OwnI
                        simpa using hown, (HI.out.below.trans (HB6.out.mono HI.out.below.size)).trans (((Below.refl wo.heap.size w6).alloc (by have := HI.out.below.size; have := HB6.out.size; omega) _).grown hgr (by have := HI.out.below.size; have := HB6.out.size; simp; omega) (fun p hp => (own_lt HO6.out p hp).1))⟩)
                    clear hown hgr hat
                    go_wp2_with fail
                    go_roundw
                    case rel => exact ⟨j + 1, HREL.out⟩
                    case measure => simp [intOf]; omega
                · have fjl : decide ((j : Int) < (l.length : Int)) = false := decide_eq_false (by omega)
                  have htake : l.take j = l := List.take_of_length_le (by omega)
                  have hiown := HI.out.own
                  rw [htake] at hiown
                  have HBI := Lib.hid HI.out.below
                  obtain ⟨vo, vk, rfl, -⟩ := own_at hiown
                  have HMID := Lib.hid (Mid.start HR.out.built (grown_of_below HBI.out none) hiown)
                  have HBXI := Lib.hid (HR.out.box.keep (grown_of_below HBI.out none))
                  have HBWI := Lib.hid (HBW.out.trans (HBI.out.mono HBW.out.size))
                  clear htake hiown
                  by_cases hr0 : (P.renum ol s l).length = 0
                  · have f1 : ((((P.renum ol s l).length : Nat) : Int) == 0) = true := by rw [beq_iff_eq]; omega
                    have HSUB := Lib.hid (P.has_false HMEM.out (by rw [HL.out]; exact P.renum_empty hr0))
                    clear hr0
                    have bb1 := HB1.out.keep (grown_of_below HBWI.out none)
                    have qc0 : wr.cell? ⟨(w.heap.size + 1 + 1), 0, none⟩ = some (.slice none 0 0) := bb1.cell 0 _ rfl
                    have qc1 : wr.cell? ⟨(w.heap.size + 1 + 1), 1, none⟩ = some (.slice none 0 0) := bb1.cell 1 _ rfl
                    have qc2 : wr.cell? ⟨(w.heap.size + 1 + 1), 2, none⟩ = some (.slice none 0 0) := bb1.cell 2 _ rfl
                    have qf0 : wr.frozen? ⟨(w.heap.size + 1 + 1), 0, none⟩ = false := bb1.frozen 0
                    have qf1 : wr.frozen? ⟨(w.heap.size + 1 + 1), 1, none⟩ = false := bb1.frozen 1
                    have qf2 : wr.frozen? ⟨(w.heap.size + 1 + 1), 2, none⟩ = false := bb1.frozen 2
                    have HPO : Hid (Below w.heap.size w (((wr.setCell ⟨w.heap.size + 1 + 1, 0, none⟩ (.slice none 0 0)).setCell ⟨w.heap.size + 1 + 1, 1, none⟩ (.slice none 0 0)).setCell ⟨w.heap.size + 1 + 1, 2, none⟩ (.slice none 0 0))) := Lib.hid ((((HG.out.trans (HBWI.out.mono (by have := HS.out; omega))).setCell (p := ⟨w.heap.size + 1 + 1, 0, none⟩) (by show w.heap.size ≤ w.heap.size + 1 + 1; omega) (.slice none 0 0)).setCell (p := ⟨w.heap.size + 1 + 1, 1, none⟩) (by show w.heap.size ≤ w.heap.size + 1 + 1; omega) (.slice none 0 0)).setCell (p := ⟨w.heap.size + 1 + 1, 2, none⟩) (by show w.heap.size ≤ w.heap.size + 1 + 1; omega) (.slice none 0 0))
                    clear bb1
                    go_wp2_with fail
                    refine bodyPost_ret (v := .tuple #[.agg #[.slice none 0 0, .slice none 0 0, .slice none 0 0], .slice none 0 0, .bool false]) (by simp [results, Tryd.results26, go_sem, qc0, qc1, qc2]) rfl ?_
                    unfold Subbed
                    rw [HSUB.out]
                    exact ⟨rfl, HPO.out⟩
                  · have f1 : ((((P.renum ol s l).length : Nat) : Int) == 0) = false := by rw [beq_eq_false_iff_ne]; omega
                    have hlen := P.G.partTo_len g s ol k (by omega)
                    have HLO := Lib.hid hlen.1
                    have HLP := Lib.hid hlen.2.1
                    have HLMV := Lib.hid hlen.2.2
                    have HG5W := Lib.hid (HR.out.grown.trans (grown_of_below HBI.out (some qs)))
                    have HL5W : Hid (w5.heap.size ≤ wr.heap.size) := Lib.hid (Nat.le_trans HL5R.out HBI.out.size)
                    have HW5 : Hid (w.heap.size ≤ w5.heap.size) := Lib.hid (by have := HB5.out.size; have := HS.out; omega)
                    have HWQ : Hid (w.heap.size < qs) := Lib.hid (by have := HQS.out; have := HL3.out; have := HQN.out; have := HS.out; omega)
                    have hbwi := HBWW.out.trans (HBI.out.mono HBWW.out.size)
                    have HCAW := Lib.hid ((hbwi.cell (p := ⟨ba, oa + at_, none⟩) HLA.out).trans HCA.out)
                    have HCBW := Lib.hid ((hbwi.cell (p := ⟨bb, ob + at_, none⟩) HLB.out).trans HCB.out)
                    have HB0I := Lib.hid (HB0R.out.keep (grown_of_below HBI.out none))
                    have HRNE : Hid ((g.moves.getD at_ []).filter (P.has s) ≠ []) := Lib.hid (by
                      intro e
                      apply hr0
                      rw [← HL.out]
                      unfold P.renum
                      rw [e]
                      rfl)
                    clear hlen hbwi hr0
                    go_wp2_with fail
                    refine Rg.wp_region_lit (fun idx => match idx with | 0 => (fun v _ _ => v = (.pointer (some ⟨qs, 0, none⟩))) | 1 => (fun v _ _ => v = A) | 2 => (fun v _ _ => v = (.pointer (some ⟨w.heap.size, 0, none⟩))) | 3 => (fun v _ _ => v = (.slice (some ⟨ba, oa, none⟩) m ka)) | 4 => (fun v _ _ => v = (.int .i64 (at_ : Int))) | 5 => (fun v _ _ => v = (.pointer (some ⟨ba, oa + at_, none⟩))) | 6 => (fun v _ _ => v = (.int .i64 zo)) | 7 => (fun v _ w' => ∃ p, v = .slice (some ⟨p, 0, none⟩) 1 1 ∧ wr.heap.size ≤ p ∧ p < w'.heap.size ∧ w'.cell? ⟨p, 0, none⟩ = some (.int .i64 zo)) | 8 => (fun v _ w' => w'.ownsRow w5.heap.size 3 1 v (k + 1) (((g.partTo s ol k).owner).map (Value.int .i64) ++ [.int .i64 zo]) ∧ (v.ownBlock = (A : Value).ownBlock ∨ ∃ p, v.ownBlock = some p ∧ wr.heap.size ≤ p)) | 9 => (fun v _ _ => v = (.pointer (some ⟨qs, 0, none⟩))) | _ => fun _ _ _ => True) ((A : Value).ownBlock) 8 (by kernel_rfl) (by rfl) (by kernel_rfl) (by rfl) ?_ ?_ ?_
                    · refine ⟨?_, ?_, ?_, ?_, ?_, ?_, ?_, ?_, ?_, ?_, trivial⟩
                      · intro A' w' K vals h hn hg hK
                        have r0 : A'.tmps[13]?.getD undef = (.pointer (some ⟨qs, 0, none⟩)) := Rg.slot (h.1)
                        clear h hn hg
                        simp [Oper.wp, execOp, go_sem, r0]
                        exact hK _ _ (Rg.grown_refl _ _) rfl
                      · intro A' w' K vals h hn hg hK
                        have r0 : A'.tmps[79]?.getD undef = vals 0 := Rg.slot h.1
                        have r1 : vals 0 = (.pointer (some ⟨qs, 0, none⟩)) := hn.1
                        have c : w'.cell? ⟨qs, 0, none⟩ = some A := (HBXI.out.grown hg (fun e => own_box HMID.out.built.own.owner HBXI.out (by decide) e.symm)).cell _ _ rfl
                        clear h hn
                        simp [Oper.wp, execOp, go_sem, r0, r1, c]
                        exact hK _ _ (Rg.grown_refl _ _) rfl
                      · intro A' w' K vals h hn hg hK
                        have r0 : A'.tmps[2]?.getD undef = (.pointer (some ⟨w.heap.size, 0, none⟩)) := Rg.slot (h.1)
                        clear h hn hg
                        simp [Oper.wp, execOp, go_sem, r0]
                        exact hK _ _ (Rg.grown_refl _ _) rfl
                      · intro A' w' K vals h hn hg hK
                        have r0 : A'.tmps[81]?.getD undef = vals 2 := Rg.slot h.1
                        have r1 : vals 2 = (.pointer (some ⟨w.heap.size, 0, none⟩)) := hn.1
                        have c : w'.cell? ⟨w.heap.size, 0, none⟩ = some (.slice (some ⟨ba, oa, none⟩) m ka) := (HB0I.out.grown hg (fun e => own_box HMID.out.built.own.owner HB0I.out (by decide) e.symm)).cell _ _ rfl
                        clear h hn
                        simp [Oper.wp, execOp, go_sem, r0, r1, c]
                        exact hK _ _ (Rg.grown_refl _ _) rfl
                      · intro A' w' K vals h hn hg hK
                        have r0 : A'.tmps[15]?.getD undef = (.int .i64 (at_ : Int)) := Rg.slot (h.1)
                        clear h hn hg
                        simp [Oper.wp, execOp, go_sem, r0]
                        exact hK _ _ (Rg.grown_refl _ _) rfl
                      · intro A' w' K vals h hn hg hK
                        have r0 : A'.tmps[82]?.getD undef = vals 3 := Rg.slot h.1
                        have r1 : A'.tmps[83]?.getD undef = vals 4 := Rg.slot h.2.1
                        have r2 : vals 3 = (.slice (some ⟨ba, oa, none⟩) m ka) := hn.1
                        have r3 : vals 4 = (.int .i64 (at_ : Int)) := hn.2.1
                        clear h hn hg
                        simp [Oper.wp, execOp, go_sem, r0, r1, r2, r3, hatm]
                        exact hK _ _ (Rg.grown_refl _ _) rfl
                      · intro A' w' K vals h hn hg hK
                        have r0 : A'.tmps[84]?.getD undef = vals 5 := Rg.slot h.1
                        have r1 : vals 5 = (.pointer (some ⟨ba, oa + at_, none⟩)) := hn.1
                        have c : w'.cell? ⟨ba, oa + at_, none⟩ = some (.int .i64 zo) := hg.cell HCAW.out (fun e => by have h1 : w5.heap.size ≤ ba := (own_lt HMID.out.built.own.owner _ e.symm).1; have h2 := HW5.out; have h3 := HLA.out; omega)
                        clear h hn
                        simp [Oper.wp, execOp, go_sem, r0, r1, c]
                        exact hK _ _ (Rg.grown_refl _ _) rfl
                      · intro A' w' K vals h hn hg hK
                        have r0 : A'.tmps[85]?.getD undef = vals 6 := Rg.slot h.1
                        have s0 : vals 6 = .int .i64 zo := hn.1
                        clear h hn
                        simp [Oper.wp, execOp, go_sem, r0, s0]
                        exact hK _ _ (Rg.grown_weak (World.grownBy_alloc _ _ _)) ⟨w'.heap.size, rfl, hg.size, by simp, by simp⟩
                      · intro A' w' K vals h hn hg hK
                        have r0 : A'.tmps[80]?.getD undef = vals 1 := Rg.slot h.1
                        have r1 : A'.tmps[86]?.getD undef = vals 7 := Rg.slot h.2.1
                        have r2 : vals 1 = A := hn.1
                        obtain ⟨p, e9, hp, hlt9, c9⟩ : ∃ p, vals 7 = .slice (some ⟨p, 0, none⟩) 1 1 ∧ wr.heap.size ≤ p ∧ p < w'.heap.size ∧ w'.cell? ⟨p, 0, none⟩ = some (.int .i64 zo) := hn.2.1
                        clear h hn
                        have hg : wr.grownBy w' none := hg
                        have own : w'.ownsRow w5.heap.size 3 1 A k (((g.partTo s ol k).owner).map (Value.int .i64)) := by
                          have this : w'.ownsRow w5.heap.size 3 1 A (g.partTo s ol k).owner.length ((g.partTo s ol k).owner.map (Value.int .i64)) := own_grown HMID.out.built.own.owner hg
                          rw [HLO.out] at this
                          exact this
                        have hrow9 : Row w' (.slice (some ⟨p, 0, none⟩) 1 1) [.int .i64 zo] := ⟨_, _, rfl, .inr ⟨p, 0, rfl, hlt9, fun j u hu => by
                          match j, hu with
                          | 0, hu => simp at hu; subst hu; exact c9⟩⟩
                        obtain ⟨v', w'', hrun, hown, hgr, hat⟩ := run_append elInt 22 own hrow9 (by intro u hu; simp at hu; subst hu; rfl) (by simp; omega) (by simp; omega) (Nat.le_trans HL5W.out hg.size)
                        refine op_append rfl (by simp [Act.eval, r0, r2]) (by simp [Act.eval, r1, e9]) hrun (hK _ _ hgr ⟨hown, ?_⟩)
                        rcases hat with hat | hat
                        · exact .inl hat
                        · exact .inr ⟨_, hat, hg.size⟩
                      · intro A' w' K vals h hn hg hK
                        have r0 : A'.tmps[13]?.getD undef = (.pointer (some ⟨qs, 0, none⟩)) := Rg.slot (h.1)
                        clear h hn hg
                        simp [Oper.wp, execOp, go_sem, r0]
                        exact hK _ _ (Rg.grown_refl _ _) rfl
                    · refine ⟨?_, ?_, ?_, ?_, ?_, ?_, ?_, ?_, ?_, ?_, trivial⟩
                      · exact fun _ _ _ _ _ _ h => h
                      · exact fun _ _ _ _ _ _ h => h
                      · exact fun _ _ _ _ _ _ h => h
                      · exact fun _ _ _ _ _ _ h => h
                      · exact fun _ _ _ _ _ _ h => h
                      · exact fun _ _ _ _ _ _ h => h
                      · exact fun _ _ _ _ _ _ h => h
                      · exact fun _ _ _ _ _ h ⟨p, hv, hp, hl, hc⟩ => ⟨p, hv, hp, Nat.lt_of_lt_of_le hl h.size, h.cell hc (fun e => by have := (own_lt HMID.out.built.own.owner p e.symm).2; omega)⟩
                      · exact fun _ _ _ _ _ h ho => ⟨own_grown ho.1 h, ho.2⟩
                      · exact fun _ _ _ _ _ _ h => h
                    · intro vals w2 G hg hS hG
                      have s8 : w2.ownsRow w5.heap.size 3 1 (vals 8) (k + 1) (((g.partTo s ol k).owner).map (Value.int .i64) ++ [.int .i64 zo]) ∧ ((vals 8).ownBlock = (A : Value).ownBlock ∨ ∃ p, (vals 8).ownBlock = some p ∧ wr.heap.size ≤ p) := hS.2.2.2.2.2.2.2.2.1
                      have s9 : vals 9 = .pointer (some ⟨qs, 0, none⟩) := hS.2.2.2.2.2.2.2.2.2.1
                      clear hS
                      obtain ⟨n8, n8k, e8, -⟩ := own_at s8.1
                      have hmid := HMID.out.owner (show w2.ownsRow w5.heap.size 3 1 _ ((g.partTo s ol k).owner.length + 1) _ by rw [HLO.out]; exact s8.1) hg s8.2
                      have hbx := HBXI.out.grown hg (fun e => own_box HMID.out.built.own.owner HBXI.out (by decide) e.symm)
                      have hb0 := HB0I.out.grown hg (fun e => own_box HMID.out.built.own.owner HB0I.out (by decide) e.symm)
                      have hg5 := grown_mix HG5W.out hg (fun p hp => (own_lt HMID.out.built.own.owner p hp).1)
                      have hl5 := Nat.le_trans HL5W.out hg.size
                      have qc : w2.cell? ⟨qs, 0, none⟩ = some A := hbx.cell 0 _ rfl
                      have qf : w2.frozen? ⟨qs, 0, none⟩ = false := hbx.frozen 0
                      have hcb := hg.cell HCBW.out (fun e => by have h1 : w5.heap.size ≤ bb := (own_lt HMID.out.built.own.owner _ e.symm).1; have h2 := HW5.out; have h3 := HLB.out; omega)
                      rw [e8] at hmid
                      have HM2 := Lib.hid (hmid.set hbx (by decide) (by decide) 0 (.slice n8 (k + 1) n8k))
                      have HX2 := Lib.hid (hbx.set 0 (.slice n8 (k + 1) n8k))
                      have HB02 := Lib.hid (hb0.far (by show w.heap.size ≠ qs; have := HWQ.out; omega) (.slice n8 (k + 1) n8k) : Box (w2.setCell ⟨qs, 0, none⟩ (.slice n8 (k + 1) n8k)) w.heap.size _ _)
                      have HG52 := Lib.hid (hg5.trans (grown_set w2 ⟨qs, 0, none⟩ (.slice n8 (k + 1) n8k)))
                      have HL52 : Hid (w5.heap.size ≤ (w2.setCell ⟨qs, 0, none⟩ (.slice n8 (k + 1) n8k)).heap.size) := Lib.hid (by simp [World.setCell]; exact hl5)
                      have HCB2 : Hid ((w2.setCell ⟨qs, 0, none⟩ (.slice n8 (k + 1) n8k)).cell? ⟨bb, ob + at_, none⟩ = some (.int .i64 zp)) := Lib.hid ((grown_set w2 ⟨qs, 0, none⟩ (.slice n8 (k + 1) n8k)).cell hcb (by intro e; injection e with e; have e : bb = qs := e; have := HWQ.out; have := HLB.out; omega))
                      clear hmid hbx hb0 hg5 hl5 hcb s8 hg
                      refine hG ?_
                      clear hG
                      simp [List.dropLast, Rg.putAll, Oper.wp, execOp, go_sem, s9, e8, qc, qf]
                      clear qc qf s9 e8
                      generalize (w2.setCell ⟨qs, 0, none⟩ (.slice n8 (k + 1) n8k)) = w8 at HM2 HX2 HB02 HG52 HL52 HCB2 ⊢
                      clear HG5W HL5W HCBW
                      have HG5W := Lib.hid HG52.out
                      have HL5W := Lib.hid HL52.out
                      have HCBW := Lib.hid HCB2.out
                      clear HG52 HL52 HCB2
                      go_wp2_with fail
                      refine Rg.wp_region_lit (fun idx => match idx with | 0 => (fun v _ _ => v = (.pointer (some ⟨qs, 1, none⟩))) | 1 => (fun v _ _ => v = B) | 2 => (fun v _ _ => v = (.pointer (some ⟨w.heap.size, 1, none⟩))) | 3 => (fun v _ _ => v = (.slice (some ⟨bb, ob, none⟩) m kb)) | 4 => (fun v _ _ => v = (.int .i64 (at_ : Int))) | 5 => (fun v _ _ => v = (.pointer (some ⟨bb, ob + at_, none⟩))) | 6 => (fun v _ _ => v = (.int .i64 zp)) | 7 => (fun v _ w' => ∃ p, v = .slice (some ⟨p, 0, none⟩) 1 1 ∧ w8.heap.size ≤ p ∧ p < w'.heap.size ∧ w'.cell? ⟨p, 0, none⟩ = some (.int .i64 zp)) | 8 => (fun v _ w' => w'.ownsRow w5.heap.size 3 1 v (k + 1) (((g.partTo s ol k).prio).map (Value.int .i64) ++ [.int .i64 zp]) ∧ (v.ownBlock = (B : Value).ownBlock ∨ ∃ p, v.ownBlock = some p ∧ w8.heap.size ≤ p)) | 9 => (fun v _ _ => v = (.pointer (some ⟨qs, 1, none⟩))) | _ => fun _ _ _ => True) ((B : Value).ownBlock) 8 (by kernel_rfl) (by rfl) (by kernel_rfl) (by rfl) ?_ ?_ ?_
                      · refine ⟨?_, ?_, ?_, ?_, ?_, ?_, ?_, ?_, ?_, ?_, trivial⟩
                        · intro A' w' K vals h hn hg hK
                          have r0 : A'.tmps[13]?.getD undef = (.pointer (some ⟨qs, 0, none⟩)) := Rg.slot (h.1)
                          clear h hn hg
                          simp [Oper.wp, execOp, go_sem, r0]
                          exact hK _ _ (Rg.grown_refl _ _) rfl
                        · intro A' w' K vals h hn hg hK
                          have r0 : A'.tmps[89]?.getD undef = vals 0 := Rg.slot h.1
                          have r1 : vals 0 = (.pointer (some ⟨qs, 1, none⟩)) := hn.1
                          have c : w'.cell? ⟨qs, 1, none⟩ = some B := (HX2.out.grown hg (fun e => own_box HM2.out.built.own.prio HX2.out (by decide) e.symm)).cell _ _ rfl
                          clear h hn
                          simp [Oper.wp, execOp, go_sem, r0, r1, c]
                          exact hK _ _ (Rg.grown_refl _ _) rfl
                        · intro A' w' K vals h hn hg hK
                          have r0 : A'.tmps[2]?.getD undef = (.pointer (some ⟨w.heap.size, 0, none⟩)) := Rg.slot (h.1)
                          clear h hn hg
                          simp [Oper.wp, execOp, go_sem, r0]
                          exact hK _ _ (Rg.grown_refl _ _) rfl
                        · intro A' w' K vals h hn hg hK
                          have r0 : A'.tmps[91]?.getD undef = vals 2 := Rg.slot h.1
                          have r1 : vals 2 = (.pointer (some ⟨w.heap.size, 1, none⟩)) := hn.1
                          have c : w'.cell? ⟨w.heap.size, 1, none⟩ = some (.slice (some ⟨bb, ob, none⟩) m kb) := (HB02.out.grown hg (fun e => own_box HM2.out.built.own.prio HB02.out (by decide) e.symm)).cell _ _ rfl
                          clear h hn
                          simp [Oper.wp, execOp, go_sem, r0, r1, c]
                          exact hK _ _ (Rg.grown_refl _ _) rfl
                        · intro A' w' K vals h hn hg hK
                          have r0 : A'.tmps[15]?.getD undef = (.int .i64 (at_ : Int)) := Rg.slot (h.1)
                          clear h hn hg
                          simp [Oper.wp, execOp, go_sem, r0]
                          exact hK _ _ (Rg.grown_refl _ _) rfl
                        · intro A' w' K vals h hn hg hK
                          have r0 : A'.tmps[92]?.getD undef = vals 3 := Rg.slot h.1
                          have r1 : A'.tmps[93]?.getD undef = vals 4 := Rg.slot h.2.1
                          have r2 : vals 3 = (.slice (some ⟨bb, ob, none⟩) m kb) := hn.1
                          have r3 : vals 4 = (.int .i64 (at_ : Int)) := hn.2.1
                          clear h hn hg
                          simp [Oper.wp, execOp, go_sem, r0, r1, r2, r3, hatm]
                          exact hK _ _ (Rg.grown_refl _ _) rfl
                        · intro A' w' K vals h hn hg hK
                          have r0 : A'.tmps[94]?.getD undef = vals 5 := Rg.slot h.1
                          have r1 : vals 5 = (.pointer (some ⟨bb, ob + at_, none⟩)) := hn.1
                          have c : w'.cell? ⟨bb, ob + at_, none⟩ = some (.int .i64 zp) := hg.cell HCBW.out (fun e => by have h1 : w5.heap.size ≤ bb := (own_lt HM2.out.built.own.prio _ e.symm).1; have h2 := HW5.out; have h3 := HLB.out; omega)
                          clear h hn
                          simp [Oper.wp, execOp, go_sem, r0, r1, c]
                          exact hK _ _ (Rg.grown_refl _ _) rfl
                        · intro A' w' K vals h hn hg hK
                          have r0 : A'.tmps[95]?.getD undef = vals 6 := Rg.slot h.1
                          have s0 : vals 6 = .int .i64 zp := hn.1
                          clear h hn
                          simp [Oper.wp, execOp, go_sem, r0, s0]
                          exact hK _ _ (Rg.grown_weak (World.grownBy_alloc _ _ _)) ⟨w'.heap.size, rfl, hg.size, by simp, by simp⟩
                        · intro A' w' K vals h hn hg hK
                          have r0 : A'.tmps[90]?.getD undef = vals 1 := Rg.slot h.1
                          have r1 : A'.tmps[96]?.getD undef = vals 7 := Rg.slot h.2.1
                          have r2 : vals 1 = B := hn.1
                          obtain ⟨p, e9, hp, hlt9, c9⟩ : ∃ p, vals 7 = .slice (some ⟨p, 0, none⟩) 1 1 ∧ w8.heap.size ≤ p ∧ p < w'.heap.size ∧ w'.cell? ⟨p, 0, none⟩ = some (.int .i64 zp) := hn.2.1
                          clear h hn
                          have hg : w8.grownBy w' none := hg
                          have own : w'.ownsRow w5.heap.size 3 1 B k (((g.partTo s ol k).prio).map (Value.int .i64)) := by
                            have this : w'.ownsRow w5.heap.size 3 1 B (g.partTo s ol k).prio.length ((g.partTo s ol k).prio.map (Value.int .i64)) := own_grown HM2.out.built.own.prio hg
                            rw [HLP.out] at this
                            exact this
                          have hrow9 : Row w' (.slice (some ⟨p, 0, none⟩) 1 1) [.int .i64 zp] := ⟨_, _, rfl, .inr ⟨p, 0, rfl, hlt9, fun j u hu => by
                            match j, hu with
                            | 0, hu => simp at hu; subst hu; exact c9⟩⟩
                          obtain ⟨v', w'', hrun, hown, hgr, hat⟩ := run_append elInt 22 own hrow9 (by intro u hu; simp at hu; subst hu; rfl) (by simp; omega) (by simp; omega) (Nat.le_trans HL5W.out hg.size)
                          refine op_append rfl (by simp [Act.eval, r0, r2]) (by simp [Act.eval, r1, e9]) hrun (hK _ _ hgr ⟨hown, ?_⟩)
                          rcases hat with hat | hat
                          · exact .inl hat
                          · exact .inr ⟨_, hat, hg.size⟩
                        · intro A' w' K vals h hn hg hK
                          have r0 : A'.tmps[13]?.getD undef = (.pointer (some ⟨qs, 0, none⟩)) := Rg.slot (h.1)
                          clear h hn hg
                          simp [Oper.wp, execOp, go_sem, r0]
                          exact hK _ _ (Rg.grown_refl _ _) rfl
                      · refine ⟨?_, ?_, ?_, ?_, ?_, ?_, ?_, ?_, ?_, ?_, trivial⟩
                        · exact fun _ _ _ _ _ _ h => h
                        · exact fun _ _ _ _ _ _ h => h
                        · exact fun _ _ _ _ _ _ h => h
                        · exact fun _ _ _ _ _ _ h => h
                        · exact fun _ _ _ _ _ _ h => h
                        · exact fun _ _ _ _ _ _ h => h
                        · exact fun _ _ _ _ _ _ h => h
                        · exact fun _ _ _ _ _ h ⟨p, hv, hp, hl, hc⟩ => ⟨p, hv, hp, Nat.lt_of_lt_of_le hl h.size, h.cell hc (fun e => by have := (own_lt HM2.out.built.own.prio p e.symm).2; omega)⟩
                        · exact fun _ _ _ _ _ h ho => ⟨own_grown ho.1 h, ho.2⟩
                        · exact fun _ _ _ _ _ _ h => h
                      · intro vals w2 G hg hS hG
                        have s8 : w2.ownsRow w5.heap.size 3 1 (vals 8) (k + 1) (((g.partTo s ol k).prio).map (Value.int .i64) ++ [.int .i64 zp]) ∧ ((vals 8).ownBlock = (B : Value).ownBlock ∨ ∃ p, (vals 8).ownBlock = some p ∧ w8.heap.size ≤ p) := hS.2.2.2.2.2.2.2.2.1
                        have s9 : vals 9 = .pointer (some ⟨qs, 1, none⟩) := hS.2.2.2.2.2.2.2.2.2.1
                        clear hS
                        obtain ⟨n8, n8k, e8, -⟩ := own_at s8.1
                        have hmid := HM2.out.prio (show w2.ownsRow w5.heap.size 3 1 _ ((g.partTo s ol k).prio.length + 1) _ by rw [HLP.out]; exact s8.1) hg s8.2
                        have hbx := HX2.out.grown hg (fun e => own_box HM2.out.built.own.prio HX2.out (by decide) e.symm)
                        have hb0 := HB02.out.grown hg (fun e => own_box HM2.out.built.own.prio HB02.out (by decide) e.symm)
                        have hg5 := grown_mix HG5W.out hg (fun p hp => (own_lt HM2.out.built.own.prio p hp).1)
                        have hl5 := Nat.le_trans HL5W.out hg.size
                        have qc : w2.cell? ⟨qs, 1, none⟩ = some B := hbx.cell 1 _ rfl
                        have qf : w2.frozen? ⟨qs, 1, none⟩ = false := hbx.frozen 1
                        have hcb := hg.cell HCBW.out (fun e => by have h1 : w5.heap.size ≤ bb := (own_lt HM2.out.built.own.prio _ e.symm).1; have h2 := HW5.out; have h3 := HLB.out; omega)
                        rw [e8] at hmid
                        have HM3 := Lib.hid (hmid.set hbx (by decide) (by decide) 1 (.slice n8 (k + 1) n8k))
                        have HX3 := Lib.hid (hbx.set 1 (.slice n8 (k + 1) n8k))
                        have HB03 := Lib.hid (hb0.far (by show w.heap.size ≠ qs; have := HWQ.out; omega) (.slice n8 (k + 1) n8k) : Box (w2.setCell ⟨qs, 1, none⟩ (.slice n8 (k + 1) n8k)) w.heap.size _ _)
                        have HG52 := Lib.hid (hg5.trans (grown_set w2 ⟨qs, 1, none⟩ (.slice n8 (k + 1) n8k)))
                        have HL52 : Hid (w5.heap.size ≤ (w2.setCell ⟨qs, 1, none⟩ (.slice n8 (k + 1) n8k)).heap.size) := Lib.hid (by simp [World.setCell]; exact hl5)
                        have HCB2 : Hid ((w2.setCell ⟨qs, 1, none⟩ (.slice n8 (k + 1) n8k)).cell? ⟨bb, ob + at_, none⟩ = some (.int .i64 zp)) := Lib.hid ((grown_set w2 ⟨qs, 1, none⟩ (.slice n8 (k + 1) n8k)).cell hcb (by intro e; injection e with e; have e : bb = qs := e; have := HWQ.out; have := HLB.out; omega))
                        clear hmid hbx hb0 hg5 hl5 hcb s8 hg
                        refine hG ?_
                        clear hG
                        simp [List.dropLast, Rg.putAll, Oper.wp, execOp, go_sem, s9, e8, qc, qf]
                        clear qc qf s9 e8
                        generalize (w2.setCell ⟨qs, 1, none⟩ (.slice n8 (k + 1) n8k)) = w9 at HM3 HX3 HB03 HG52 HL52 HCB2 ⊢
                        clear HG5W HL5W HCBW
                        have HG5W := Lib.hid HG52.out
                        have HL5W := Lib.hid HL52.out
                        have HCBW := Lib.hid HCB2.out
                        clear HG52 HL52 HCB2
                        have hx3 := HX3.out
                        have qc2 : w9.cell? ⟨qs, 2, none⟩ = some C := hx3.cell 2 _ rfl
                        clear hx3
                        go_wp2_with (at_builtin; refine wpl_append elInts rfl (.tmp 100) (.tmp 102) rfl rfl (own_grown HM3.out.built.own.head (World.grownBy_alloc _ _ none)) rfl (row_one _ _ _) ?_ ?_ ?_ ?_ ?_)
                        · first | rfl | (intro u hu; simp at hu; subst hu; rfl)
                        · have h1 := HLMV.out; show ((g.partTo s ol k).moves.length + 1) * 24 ≤ 140737488355328; omega
                        · have h1 : (g.partTo s ol k).moves.length = k := HLMV.out; omega
                        · have := HL5W.out; simp; omega
                        intro v' w10 hown hgr hat
                        have hown2 : w10.ownsRow w5.heap.size 22 1 v' ((g.partTo s ol k).moves.length + 1) (L ++ [.slice vo (P.renum ol s l).length vk]) := hown
                        obtain ⟨co3, ck3, rfl, -⟩ := own_at hown2
                        have hal := World.grownBy_alloc w9 (.cells #[.slice vo (P.renum ol s l).length vk] 22) none
                        have hm3 := HM3.out.grown hal
                        have hx3 := HX3.out.keep hal
                        have hg3 := HG5W.out.trans (Rg.grown_weak hal (row := some qs))
                        generalize w9.alloc (.cells #[.slice vo (P.renum ol s l).length vk] 22) = w9a at hgr hm3 hx3 hg3
                        have hbt := hm3.row HL5R.out hown2 hgr
                        have hx10 := hx3.grown hgr (fun e => own_box hm3.built.own.head hx3 (by decide) e.symm)
                        have hg10 := grown_mix hg3 hgr (fun p hp => (own_lt hm3.built.own.head p hp).1)
                        clear hal hm3 hx3 hg3
                        have qc2 : w10.cell? ⟨qs, 2, none⟩ = some C := hx10.cell 2 _ rfl
                        have qf2 : w10.frozen? ⟨qs, 2, none⟩ = false := hx10.frozen 2
                        rw [HLMV.out] at hbt ⊢
                        have HREL := Lib.hid (show RelS w5 qs g s ol (.int .i64 ((k + 1 : Nat) : Int)) (w10.setCell ⟨qs, 2, none⟩ (.slice co3 (k + 1) ck3)) (k + 1) _ _ (.slice co3 (k + 1) ck3) (L ++ [.slice vo (P.renum ol s l).length vk]) from
                          ⟨by omega, rfl, hx10.set 2 _, by
                            have h := hbt.set hx10 (by decide) (by decide) 2 (.slice co3 (k + 1) ck3)
                            rw [P.G.partTo_succ g s ol k hlt, HATE.out, HZO.out, HZP.out, HL.out]
                            exact h, hg10.trans (grown_set _ _ _), fun j hj hjk => by
                            by_cases e : j = k
                            · subst e; rw [HATE.out]; exact HRNE.out
                            · exact HR.out.full j hj (by omega)⟩)
                        clear hown hown2 hbt hx10 hg10 hgr hat
                        go_wp2_with fail
                        go_roundw
                        case rel => exact ⟨k + 1, _, _, _, _, HREL.out⟩
                        case measure => simp [intOf]; omega
            · have fj : decide ((k : Int) < (ol.length : Int)) = false := decide_eq_false (by omega)
              have hkl : k = ol.length := by omega
              have hbt := HR.out.built
              have hbq := HR.out.box
              have hfull := HR.out.full
              rw [hkl] at hbt hfull
              have HSUB := Lib.hid (P.has_true (s := s) HK.out (by rw [HOL.out]; exact hpos) (by
                intro i hi
                rw [HOL.out] at hi
                obtain ⟨j, hj, rfl⟩ := List.getElem_of_mem hi
                exact hfull j hj hj))
              have hpart : g.partTo s ol ol.length = g.part s := by unfold P.G.part; rw [HOL.out]
              rw [hpart] at hbt
              obtain ⟨a1, k1, b1, k2, c1, k3, rfl, rfl, rfl⟩ := hbt.own.forms
              have bb1 := HB1.out.keep (grown_of_below HBW.out none)
              obtain ⟨la, hla⟩ : ∃ la, (g.part s).owner.length = la := ⟨_, rfl⟩
              obtain ⟨lb, hlb⟩ : ∃ lb, (g.part s).prio.length = lb := ⟨_, rfl⟩
              obtain ⟨lc, hlc⟩ : ∃ lc, (g.part s).moves.length = lc := ⟨_, rfl⟩
              rw [hla, hlb, hlc] at hbt hbq
              have rc0 : wo.cell? ⟨qs, 0, none⟩ = some (.slice a1 la k1) := hbq.cell 0 _ rfl
              have rc1 : wo.cell? ⟨qs, 1, none⟩ = some (.slice b1 lb k2) := hbq.cell 1 _ rfl
              have rc2 : wo.cell? ⟨qs, 2, none⟩ = some (.slice c1 lc k3) := hbq.cell 2 _ rfl
              have qc0 : wo.cell? ⟨(w.heap.size + 1 + 1), 0, none⟩ = some (.slice none 0 0) := bb1.cell 0 _ rfl
              have qc1 : wo.cell? ⟨(w.heap.size + 1 + 1), 1, none⟩ = some (.slice none 0 0) := bb1.cell 1 _ rfl
              have qc2 : wo.cell? ⟨(w.heap.size + 1 + 1), 2, none⟩ = some (.slice none 0 0) := bb1.cell 2 _ rfl
              have qf0 : wo.frozen? ⟨(w.heap.size + 1 + 1), 0, none⟩ = false := bb1.frozen 0
              have qf1 : wo.frozen? ⟨(w.heap.size + 1 + 1), 1, none⟩ = false := bb1.frozen 1
              have qf2 : wo.frozen? ⟨(w.heap.size + 1 + 1), 2, none⟩ = false := bb1.frozen 2
              have h9s := own_set (own_set (own_set H9R.out bb1 (by decide) 0 (.slice a1 la k1)) (bb1.set 0 _) (by decide) 1 (.slice b1 lb k2)) ((bb1.set 0 _).set 1 _) (by decide) 2 (.slice c1 lc k3)
              have HOW := Lib.hid ((((hbt.own.set bb1 (by decide) (by decide) 0 (.slice a1 la k1)).set (bb1.set 0 _) (by decide) (by decide) 1 (.slice b1 lb k2)).set ((bb1.set 0 _).set 1 _) (by decide) (by decide) 2 (.slice c1 lc k3)).low (show w.heap.size ≤ w5.heap.size by have := HB5.out.size; have := HS.out; omega))
              have HV9 := Lib.hid (own_more h9s (show w.heap.size ≤ w1.heap.size by have := HB1W.out.size; have := HS.out; omega))
              have HPO := Lib.hid (((HBWW.out.setCell (p := ⟨w.heap.size + 1 + 1, 0, none⟩) (by show w.heap.size ≤ w.heap.size + 1 + 1; omega) (.slice a1 la k1)).setCell (p := ⟨w.heap.size + 1 + 1, 1, none⟩) (by show w.heap.size ≤ w.heap.size + 1 + 1; omega) (.slice b1 lb k2)).setCell (p := ⟨w.heap.size + 1 + 1, 2, none⟩) (by show w.heap.size ≤ w.heap.size + 1 + 1; omega) (.slice c1 lc k3))
              clear hbt hbq hfull hpart bb1 h9s hla hlb hlc hkl
              go_wp2_with fail
              refine bodyPost_ret (v := .tuple #[.agg #[.slice a1 la k1, .slice b1 lb k2, .slice c1 lc k3], .slice (some ⟨q9, 0, none⟩) ol.length k9, .bool true]) (by simp [results, Tryd.results26, go_sem, qc0, qc1, qc2]) rfl ?_
              unfold Subbed
              rw [HSUB.out, if_pos rfl]
              refine ⟨_, _, _, _, _, rfl, HOW.out, ?_, HPO.out⟩
              rw [HOL.out]
              unfold OwnI
              rw [vals_eq, List.length_map]
              exact HV9.out

theorem sub_any (g : P.G) (s : BitVec 256) (v : Value) (w : World) (hv : GameV w v g) (hT : Tab w) : Calls Tryd.prog 26 #[v, .agg #[.int .u64 (P.wrd s 0), .int .u64 (P.wrd s 1), .int .u64 (P.wrd s 2), .int .u64 (P.wrd s 3)]] w (Subbed w g s) := by
  by_cases hok : g.ok = true
  · exact sub_ok g s v w hv hT hok
  · exact sub_bad g s v w hv (by simpa using hok)
end W
end Go.Proofs.YtpjmboonaciplaaDoor
