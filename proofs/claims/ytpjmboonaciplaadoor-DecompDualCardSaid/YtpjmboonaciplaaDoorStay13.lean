/- Moves that stay in a part: the solver's walk. -/
import Derived.Test.YtpjmboonaciplaaDoorSlv
import Derived.Test.YtpjmboonaciplaaDoorOwnAt
import Derived.Test.YtpjmboonaciplaaDoorPlaP
import Derived.Test.YtpjmboonaciplaaDoorList
import Derived.Test.YtpjmboonaciplaaDoorRight
import Derived.Test.YtpjmboonaciplaaDoorIndexF
import Derived.Test.YtpjmboonaciplaaDoorRegionZ
import Derived.Test.YtpjmboonaciplaaDoorReg
import Derived.Deep.Cut
import Derived.Lib.Hide
import Derived.Deep.QuietTactic
import Derived.BigQuiet
import Derived.StillTailTactics
namespace Go.Proofs.YtpjmboonaciplaaDoor
open Go.RowKit
namespace W

end W
namespace P
/-- The moves that are chosen once the first k of a set are through. -/
def styK (g : G) (I S : BitVec 256) (c : List Int) (k : Nat) : List Int := (List.range c.length).map fun j => if j ∈ (lst S).take k then (first I (g.moves.getD j [])).getD (c.getD j (-1)) else c.getD j (-1)
theorem styK_at {g : G} {I S : BitVec 256} {c : List Int} {k j : Nat} (hj : j < c.length) : (styK g I S c k)[j]? = some (if j ∈ (lst S).take k then (first I (g.moves.getD j [])).getD (c.getD j (-1)) else c.getD j (-1)) := by
  unfold styK
  rw [List.getElem?_map, List.getElem?_range hj]
  rfl
theorem styK_len (g : G) (I S : BitVec 256) (c : List Int) (k : Nat) : (styK g I S c k).length = c.length := by unfold styK; simp
theorem styK_ext {g : G} {I S : BitVec 256} {c l : List Int} {k : Nat} (hl : l.length = c.length) (h : ∀ j, j < c.length → l[j]? = some (if j ∈ (lst S).take k then (first I (g.moves.getD j [])).getD (c.getD j (-1)) else c.getD j (-1))) : styK g I S c k = l := by
  apply List.ext_getElem?
  intro j
  by_cases hj : j < c.length
  · rw [styK_at hj, h j hj]
  · rw [List.getElem?_eq_none (by rw [styK_len]; omega), List.getElem?_eq_none (by omega)]
theorem styK_zero (g : G) (I S : BitVec 256) (c : List Int) : styK g I S c 0 = c := styK_ext rfl fun j hj => by
  rw [List.take_zero, if_neg (by simp), List.getD_eq_getElem?_getD, List.getElem?_eq_getElem hj]
  rfl
theorem mem_take_succ {l : List Nat} {k j : Nat} (hk : k < l.length) : j ∈ l.take (k + 1) ↔ j ∈ l.take k ∨ j = l.getD k 0 := by
  rw [List.take_add_one, List.getElem?_eq_getElem hk, List.mem_append, List.getD_eq_getElem?_getD, List.getElem?_eq_getElem hk]
  simp
theorem styK_none {g : G} {I S : BitVec 256} {c : List Int} {k : Nat} (hk : k < (lst S).length) (h : first I (g.moves.getD ((lst S).getD k 0) []) = none) : styK g I S c (k + 1) = styK g I S c k := by
  refine (styK_ext (styK_len _ _ _ _ _) fun j hj => ?_).symm.symm
  rw [styK_at hj]
  congr 1
  by_cases e : j = (lst S).getD k 0
  · rw [if_pos ((mem_take_succ hk).2 (.inr e)), e, h]
    split <;> rfl
  · by_cases h1 : j ∈ (lst S).take k
    · rw [if_pos h1, if_pos ((mem_take_succ hk).2 (.inl h1))]
    · rw [if_neg h1, if_neg (fun h2 => ((mem_take_succ hk).1 h2).elim h1 e)]
theorem styK_some {g : G} {I S : BitVec 256} {c : List Int} {k : Nat} {y : Int} (hk : k < (lst S).length) (h : first I (g.moves.getD ((lst S).getD k 0) []) = some y) (hc : (lst S).getD k 0 < c.length) : styK g I S c (k + 1) = (styK g I S c k).set ((lst S).getD k 0) y := by
  refine styK_ext (by rw [List.length_set, styK_len]) fun j hj => ?_
  by_cases e : j = (lst S).getD k 0
  · rw [if_pos ((mem_take_succ hk).2 (.inr e)), e, h, List.getElem?_set_self (by rw [styK_len]; exact hc)]
    rfl
  · rw [List.getElem?_set_ne (Ne.symm e), styK_at hj]
    congr 1
    by_cases h1 : j ∈ (lst S).take k
    · rw [if_pos h1, if_pos ((mem_take_succ hk).2 (.inl h1))]
    · rw [if_neg h1, if_neg (fun h2 => ((mem_take_succ hk).1 h2).elim h1 e)]
theorem styK_all {g : G} {p : Int} {I T : BitVec 256} {c : List Int} {k : Nat} (hc : c.length = g.owner.length) (hn : g.owner.length ≤ 256) (hk : (lst (T &&& places p g.owner g.owner.length)).length ≤ k) : styK g I (T &&& places p g.owner g.owner.length) c k = sty g p I T c := by
  refine styK_ext (sty_len _ _ _ _ _) fun j hj => ?_
  unfold sty
  rw [List.getElem?_map, List.getElem?_range hj]
  show some (if T.getLsbD j = true ∧ g.owner.getD j 0 = p then _ else _) = some _
  congr 1
  have e : j ∈ (lst (T &&& places p g.owner g.owner.length)).take k ↔ T.getLsbD j = true ∧ g.owner.getD j 0 = p := by
    rw [List.take_of_length_le hk, mem_lst, BitVec.getLsbD_and, getLsbD_places p g.owner j (by omega), Bool.and_eq_true, Bool.and_eq_true, decide_eq_true_eq, decide_eq_true_eq]
    exact ⟨fun h => ⟨h.1, h.2.2⟩, fun h => ⟨h.1, by omega, h.2⟩⟩
  by_cases h1 : T.getLsbD j = true ∧ g.owner.getD j 0 = p
  · rw [if_pos h1, if_pos (e.2 h1)]
  · rw [if_neg h1, if_neg (fun h2 => h1 (e.1 h2))]
end P
namespace W
theorem lists_at {w : World} {lo lo' : Nat} {v : Value} {l : List Nat} (h : w.ownsRow lo 3 1 v l.length (P.vals l)) (hl : lo' ≤ lo) : ∃ ao kl, v = .slice ao l.length kl ∧ (l = [] ∨ ∃ b, ao = some ⟨b, 0, none⟩ ∧ lo' ≤ b ∧ b < w.heap.size ∧ ∀ j, j < l.length → w.cell? ⟨b, j, none⟩ = some (.int .i64 ((l.getD j 0 : Nat) : Int))) := by
  obtain ⟨ao, k, rfl, h2⟩ := own_at h
  refine ⟨ao, k, rfl, ?_⟩
  rcases h2 with h2 | ⟨b, rfl, h3, h4, h5⟩
  · exact .inl (List.map_eq_nil_iff.1 h2)
  · refine .inr ⟨b, rfl, Nat.le_trans hl h3, h4, fun j hj => ?_⟩
    have := h5 j (.int .i64 ((l.getD j 0 : Nat) : Int)) (by
      unfold P.vals
      rw [List.getElem?_map, List.getD_eq_getElem?_getD, List.getElem?_eq_getElem hj]
      rfl)
    rw [Nat.zero_add] at this
    exact this
set_option maxRecDepth 100000 in
set_option maxHeartbeats 8000000 in
theorem stay_any (g : P.G) (hr : g.Right) (n : Nat) (hn : g.owner.length = n) (w0 : World) (ba oa ka bb ob kb bc_ oc kc : Nat) (hv : GameV w0 (.agg #[.slice (some ⟨ba, oa, none⟩) n ka, .slice (some ⟨bb, ob, none⟩) n kb, .slice (some ⟨bc_, oc, none⟩) n kc]) g) (hT : Tab w0) (qs pc kq : Nat) (c : List Int) (d : Int) (w : World) (hS : Sl w0 w qs pc n kq (.slice (some ⟨ba, oa, none⟩) n ka) (.slice (some ⟨bb, ob, none⟩) n kb) (.slice (some ⟨bc_, oc, none⟩) n kc) c d) (p : Int) (I T : BitVec 256) (hTn : ∀ i, P.Bit T i → i < n) :
    Calls Tryd.prog 49 #[.pointer (some ⟨qs, 0, none⟩), .agg #[.int .u64 (P.wrd I 0), .int .u64 (P.wrd I 1), .int .u64 (P.wrd I 2), .int .u64 (P.wrd I 3)], .int .i64 p, .agg #[.int .u64 (P.wrd T 0), .int .u64 (P.wrd T 1), .int .u64 (P.wrd T 2), .int .u64 (P.wrd T 3)]] w fun e w' => e = .returned (.tuple #[]) ∧ Sl w0 w' qs pc n kq (.slice (some ⟨ba, oa, none⟩) n ka) (.slice (some ⟨bb, ob, none⟩) n kb) (.slice (some ⟨bc_, oc, none⟩) n kc) (P.sty g p I T c) d ∧ SlK qs pc w w' := by
  have HV := Lib.hid hv
  have TB := Lib.hid hT
  have HR := Lib.hid hr
  have HN := Lib.hid hn
  have hop := hr.prio
  have hmp := hr.moves
  have hmany := hr.many
  have h0 := hr.pos
  rw [hn] at hop hmp hmany h0
  have HPN := Lib.hid hop
  obtain ⟨xba, xoa, xka, xbb, xob, xkb, xbc, xoc, xkc, e0, hca, hcb, hcc⟩ := hv.open_ hn hop hmp h0
  injection e0 with e0
  obtain ⟨⟨⟨rfl, rfl⟩, rfl⟩, ⟨⟨rfl, rfl⟩, rfl⟩, ⟨rfl, rfl⟩, rfl⟩ : (((ba = xba ∧ oa = xoa) ∧ ka = xka) ∧ ((bb = xbb ∧ ob = xob) ∧ kb = xkb) ∧ (bc_ = xbc ∧ oc = xoc) ∧ kc = xkc) := by simpa using e0
  have HCA := Lib.hid hca
  have HCB := Lib.hid hcb
  have HCC := Lib.hid hcc
  clear e0 hca hcb hcc hv hT hr hn hop hmp
  have HS := Lib.hid hS
  have HTN := Lib.hid hTn
  have HCL := Lib.hid hS.len
  have HQ2 : Hid (qs < w.heap.size ∧ pc < w.heap.size) := Lib.hid ⟨hS.box.lt, hS.plo.2⟩
  clear hS hTn
  have hmf : ∀ (fn : Fn) (first cap : Array Value) (w : World), (Instr.makeFunc fn first cap).run Tryd.prog w = .ok (.func fn first cap) w := fun _ _ _ _ => rfl
  go_enter Tryd.func49, Tryd.ntmps49
  go_upto_region 1 with (fail)
  have bx0 : Box ((w.alloc (.cells #[.int .u64 (P.wrd I 0), .int .u64 (P.wrd I 1), .int .u64 (P.wrd I 2), .int .u64 (P.wrd I 3)] 45)).alloc (.cells #[.int .u64 (P.wrd T 0), .int .u64 (P.wrd T 1), .int .u64 (P.wrd T 2), .int .u64 (P.wrd T 3)] 45)) (w.heap.size) 45 #[.int .u64 (P.wrd I 0), .int .u64 (P.wrd I 1), .int .u64 (P.wrd I 2), .int .u64 (P.wrd I 3)] := Box.alloc (Box.new w 45 #[.int .u64 (P.wrd I 0), .int .u64 (P.wrd I 1), .int .u64 (P.wrd I 2), .int .u64 (P.wrd I 3)]) (.cells #[.int .u64 (P.wrd T 0), .int .u64 (P.wrd T 1), .int .u64 (P.wrd T 2), .int .u64 (P.wrd T 3)] 45)
  have bx1 : Box ((w.alloc (.cells #[.int .u64 (P.wrd I 0), .int .u64 (P.wrd I 1), .int .u64 (P.wrd I 2), .int .u64 (P.wrd I 3)] 45)).alloc (.cells #[.int .u64 (P.wrd T 0), .int .u64 (P.wrd T 1), .int .u64 (P.wrd T 2), .int .u64 (P.wrd T 3)] 45)) (w.heap.size + 1) 45 #[.int .u64 (P.wrd T 0), .int .u64 (P.wrd T 1), .int .u64 (P.wrd T 2), .int .u64 (P.wrd T 3)] := by
    have := Box.new (w.alloc (.cells #[.int .u64 (P.wrd I 0), .int .u64 (P.wrd I 1), .int .u64 (P.wrd I 2), .int .u64 (P.wrd I 3)] 45)) 45 #[.int .u64 (P.wrd T 0), .int .u64 (P.wrd T 1), .int .u64 (P.wrd T 2), .int .u64 (P.wrd T 3)]
    simpa using this
  have hbq : Below w.heap.size w ((w.alloc (.cells #[.int .u64 (P.wrd I 0), .int .u64 (P.wrd I 1), .int .u64 (P.wrd I 2), .int .u64 (P.wrd I 3)] 45)).alloc (.cells #[.int .u64 (P.wrd T 0), .int .u64 (P.wrd T 1), .int .u64 (P.wrd T 2), .int .u64 (P.wrd T 3)] 45)) := ((Below.refl _ w).alloc (Nat.le_refl _) _).alloc (by simp) _
  have lt0 : w.heap.size < w.heap.size + 1 := Nat.lt_succ_self _
  have hle0 : w.heap.size ≤ w.heap.size := Nat.le_refl _
  replace HS := Lib.hid (HS.out.on hbq)
  generalize ((w.alloc (.cells #[.int .u64 (P.wrd I 0), .int .u64 (P.wrd I 1), .int .u64 (P.wrd I 2), .int .u64 (P.wrd I 3)] 45)).alloc (.cells #[.int .u64 (P.wrd T 0), .int .u64 (P.wrd T 1), .int .u64 (P.wrd T 2), .int .u64 (P.wrd T 3)] 45)) = w2 at bx0 bx1 hbq HS ⊢
  have BQi := Lib.hid bx0
  have BQt := Lib.hid bx1
  have W := Lib.hid hbq
  have LTit := Lib.hid lt0
  have LEi := Lib.hid hle0
  clear hbq hle0 bx0 bx1 lt0
  generalize w.heap.size + 1 = qt at BQt LTit ⊢
  obtain ⟨qi, hqi⟩ : ∃ qi, w.heap.size = qi := ⟨_, rfl⟩
  rw [hqi] at BQi LTit ⊢
  have LEi : Hid (w.heap.size ≤ qi) := Lib.hid (by omega)
  clear hqi
  have HW2 : Hid (w.heap.size ≤ w2.heap.size) := Lib.hid W.out.size
  refine Rz.wp_region (fun idx => match idx with | 0 => (fun v _ _ => v = .agg #[.int .u64 (P.wrd T 0), .int .u64 (P.wrd T 1), .int .u64 (P.wrd T 2), .int .u64 (P.wrd T 3)]) | 1 => (fun v _ _ => v = (.pointer (some ⟨qs, 0, none⟩))) | 2 => (fun v _ _ => v = (.pointer (some ⟨qs, 0, none⟩))) | 3 => (fun v _ _ => v = (.pointer (some ⟨qs, 0, none⟩))) | 4 => (fun v _ _ => v = .agg #[.slice (some ⟨ba, oa, none⟩) n ka, .slice (some ⟨bb, ob, none⟩) n kb, .slice (some ⟨bc_, oc, none⟩) n kc]) | 5 => (fun v _ _ => v = (.int .i64 p)) | 6 => (fun v _ _ => v = .agg #[.int .u64 (P.wrd (P.places p g.owner g.owner.length) 0), .int .u64 (P.wrd (P.places p g.owner g.owner.length) 1), .int .u64 (P.wrd (P.places p g.owner g.owner.length) 2), .int .u64 (P.wrd (P.places p g.owner g.owner.length) 3)]) | 7 => (fun v _ _ => v = .agg #[.int .u64 (P.wrd (T &&& P.places p g.owner g.owner.length) 0), .int .u64 (P.wrd (T &&& P.places p g.owner g.owner.length) 1), .int .u64 (P.wrd (T &&& P.places p g.owner g.owner.length) 2), .int .u64 (P.wrd (T &&& P.places p g.owner g.owner.length) 3)]) | 8 => (fun v _ w' => (∃ ao kl, v = .slice ao (P.lst (T &&& P.places p g.owner g.owner.length)).length kl ∧ (P.lst (T &&& P.places p g.owner g.owner.length) = [] ∨ ∃ b, ao = some ⟨b, 0, none⟩ ∧ w2.heap.size ≤ b ∧ b < w'.heap.size ∧ ∀ j, j < (P.lst (T &&& P.places p g.owner g.owner.length)).length → w'.cell? ⟨b, j, none⟩ = some (.int .i64 (((P.lst (T &&& P.places p g.owner g.owner.length)).getD j 0 : Nat) : Int))))) | 9 => (fun v _ _ => v = .int .i64 (((P.lst (T &&& P.places p g.owner g.owner.length)).length : Nat) : Int)) | 10 => (fun v _ _ => v = (.int .i64 0)) | _ => fun _ _ _ => True) (fun _ _ _ _ => True) (Rk.allK) 99 (by kernel_rfl) (by kernel_rfl) (by rfl) ?_ ?_ ?_ ?_
  · refine ⟨?_, ?_, ?_, ?_, ?_, ?_, ?_, ?_, ?_, ?_, ?_, trivial⟩
    · intro A w' K vals h hn hT hgk hK0
      have r0 : A.tmps[7]?.getD undef = (.pointer (some ⟨qt, 0, none⟩)) := Rg.slot h.1
      have bs := BQt.out.keep (Rk.grown_of hgk)
      have cc0 : w'.cell? ⟨qt, 0, none⟩ = some (.int .u64 (P.wrd T 0)) := bs.cell 0 _ rfl
      have cc1 : w'.cell? ⟨qt, 1, none⟩ = some (.int .u64 (P.wrd T 1)) := bs.cell 1 _ rfl
      have cc2 : w'.cell? ⟨qt, 2, none⟩ = some (.int .u64 (P.wrd T 2)) := bs.cell 2 _ rfl
      have cc3 : w'.cell? ⟨qt, 3, none⟩ = some (.int .u64 (P.wrd T 3)) := bs.cell 3 _ rfl
      clear h hn hT hgk bs
      simp [Oper.wp, execOp, go_sem, r0, cc0, cc1, cc2, cc3]
      exact hK0 _ _ (Rk.Keeps.refl _ _) rfl trivial
    · intro A w' K vals h hn hT hgk hK0
      have r0 : A.tmps[0]?.getD undef = .pointer (some ⟨qs, 0, none⟩) := Rg.slot h.1
      clear h hn hT hgk
      simp [Oper.wp, execOp, go_sem, r0]
      exact hK0 _ _ (Rk.Keeps.refl _ _) rfl trivial
    · intro A w' K vals h hn hT hgk hK0
      have r0 : A.tmps[13]?.getD undef = vals 1 := Rg.slot h.1
      have s0 : vals 1 = .pointer (some ⟨qs, 0, none⟩) := hn.1
      clear h hn hT hgk
      simp [Oper.wp, execOp, go_sem, r0, s0]
      exact hK0 _ _ (Rk.Keeps.refl _ _) rfl trivial
    · intro A w' K vals h hn hT hgk hK0
      have r0 : A.tmps[14]?.getD undef = vals 2 := Rg.slot h.1
      have s0 : vals 2 = .pointer (some ⟨qs, 0, none⟩) := hn.1
      clear h hn hT hgk
      simp [Oper.wp, execOp, go_sem, r0, s0]
      exact hK0 _ _ (Rk.Keeps.refl _ _) rfl trivial
    · intro A w' K vals h hn hT hgk hK0
      have r0 : A.tmps[15]?.getD undef = vals 3 := Rg.slot h.1
      have r1 : vals 3 = (.pointer (some ⟨qs, 0, none⟩)) := hn.1
      have bs := HS.out.box.keep (Rk.grown_of hgk)
      have cc0 : w'.cell? ⟨qs, 0, none⟩ = some (.slice (some ⟨ba, oa, none⟩) n ka) := bs.cell 0 _ rfl
      have cc1 : w'.cell? ⟨qs, 1, none⟩ = some (.slice (some ⟨bb, ob, none⟩) n kb) := bs.cell 1 _ rfl
      have cc2 : w'.cell? ⟨qs, 2, none⟩ = some (.slice (some ⟨bc_, oc, none⟩) n kc) := bs.cell 2 _ rfl
      clear h hn hT hgk bs
      simp [Oper.wp, execOp, go_sem, r0, r1, cc0, cc1, cc2]
      exact hK0 _ _ (Rk.Keeps.refl _ _) rfl trivial
    · intro A w' K vals h hn hT hgk hK0
      have r0 : A.tmps[2]?.getD undef = .int .i64 p := Rg.slot h.1
      clear h hn hT hgk
      simp [Oper.wp, execOp, go_sem, r0]
      exact hK0 _ _ (Rk.Keeps.refl _ _) rfl trivial
    · intro A w' K vals h hn hT hgk hK0
      have r0 : A.tmps[16]?.getD undef = vals 4 := Rg.slot h.2.1
      have r1 : A.tmps[17]?.getD undef = vals 5 := Rg.slot h.2.2.1
      have s0 : vals 4 = .agg #[.slice (some ⟨ba, oa, none⟩) n ka, .slice (some ⟨bb, ob, none⟩) n kb, .slice (some ⟨bc_, oc, none⟩) n kc] := hn.1
      have s1 : vals 5 = .int .i64 p := hn.2.1
      have hb := HS.out.low.trans ((below_of_grown (Rk.grown_of hgk)).mono HS.out.low.size)
      clear h hn hT hgk
      simp [Oper.wp, go_sem, r0, r1, s0, s1]
      refine (own_any g _ p w' (HV.out.on hb)).mono ?_
      rintro e w'' ⟨rfl, hb⟩
      exact hK0 _ _ (Rk.keep_of (grown_of_below hb _)) rfl trivial
    · intro A w' K vals h hn hT hgk hK0
      have r0 : A.tmps[12]?.getD undef = vals 0 := Rg.slot h.2.1
      have r1 : A.tmps[18]?.getD undef = vals 6 := Rg.slot h.2.2.1
      have s0 : vals 0 = .agg #[.int .u64 (P.wrd T 0), .int .u64 (P.wrd T 1), .int .u64 (P.wrd T 2), .int .u64 (P.wrd T 3)] := hn.1
      have s1 : vals 6 = .agg #[.int .u64 (P.wrd (P.places p g.owner g.owner.length) 0), .int .u64 (P.wrd (P.places p g.owner g.owner.length) 1), .int .u64 (P.wrd (P.places p g.owner g.owner.length) 2), .int .u64 (P.wrd (P.places p g.owner g.owner.length) 3)] := hn.2.1
      clear h hn hT hgk
      simp [Oper.wp, go_sem, r0, r1, s0, s1]
      refine (and_any _ _ w').mono ?_
      rintro e w'' ⟨rfl, hb⟩
      exact hK0 _ _ (Rk.keep_of (grown_of_below hb _)) rfl trivial
    · intro A w' K vals h hn hT hgk hK0
      have r0 : A.tmps[19]?.getD undef = vals 7 := Rg.slot h.2.1
      have s0 : vals 7 = .agg #[.int .u64 (P.wrd (T &&& P.places p g.owner g.owner.length) 0), .int .u64 (P.wrd (T &&& P.places p g.owner g.owner.length) 1), .int .u64 (P.wrd (T &&& P.places p g.owner g.owner.length) 2), .int .u64 (P.wrd (T &&& P.places p g.owner g.owner.length) 3)] := hn.1
      have hsz := hgk.size
      have hb := HS.out.low.trans ((below_of_grown (Rk.grown_of hgk)).mono HS.out.low.size)
      clear h hn hT hgk
      simp [Oper.wp, go_sem, r0, s0]
      refine (list_any (T &&& P.places p g.owner g.owner.length) w' (TB.out.on hb)).mono ?_
      rintro e w'' ⟨lv, rfl, hown, hb⟩
      exact hK0 _ _ (Rk.keep_of (grown_of_below hb _)) (lists_at hown hsz) trivial
    · intro A w' K vals h hn hT hgk hK0
      have r0 : A.tmps[20]?.getD undef = vals 8 := Rg.slot h.1
      obtain ⟨ao, kl, s0, -⟩ : (∃ ao kl, vals 8 = .slice ao (P.lst (T &&& P.places p g.owner g.owner.length)).length kl ∧ (P.lst (T &&& P.places p g.owner g.owner.length) = [] ∨ ∃ b, ao = some ⟨b, 0, none⟩ ∧ w2.heap.size ≤ b ∧ b < w'.heap.size ∧ ∀ j, j < (P.lst (T &&& P.places p g.owner g.owner.length)).length → w'.cell? ⟨b, j, none⟩ = some (.int .i64 (((P.lst (T &&& P.places p g.owner g.owner.length)).getD j 0 : Nat) : Int)))) := hn.1
      clear h hn hT hgk
      simp [Oper.wp, go_sem, r0, s0]
      exact hK0 _ _ (Rk.Keeps.refl _ _) rfl trivial
    · intro A w' K vals h hn hT hgk hK0
      clear h hn hT hgk
      simp [Oper.wp, execOp, go_sem]
      exact hK0 _ _ (Rk.Keeps.refl _ _) rfl trivial
  · refine ⟨?_, ?_, ?_, ?_, ?_, ?_, ?_, ?_, ?_, ?_, ?_, trivial⟩
    · exact fun _ _ _ _ _ _ h => h
    · exact fun _ _ _ _ _ _ h => h
    · exact fun _ _ _ _ _ _ h => h
    · exact fun _ _ _ _ _ _ h => h
    · exact fun _ _ _ _ _ _ h => h
    · exact fun _ _ _ _ _ _ h => h
    · exact fun _ _ _ _ _ _ h => h
    · exact fun _ _ _ _ _ _ h => h
    · exact fun _ _ _ _ _ h hl => by
        obtain ⟨ao, kl, h1, h2⟩ := hl
        refine ⟨ao, kl, h1, h2.imp id ?_⟩
        rintro ⟨b, h3, h4, h5, h6⟩
        exact ⟨b, h3, h4, Nat.lt_of_lt_of_le h5 h.size, fun j hj => (Rk.grown_of h).cell (h6 j hj) (by simp)⟩
    · exact fun _ _ _ _ _ _ h => h
    · exact fun _ _ _ _ _ _ h => h
  · exact fun _ _ _ _ _ _ h => h
  · intro vals w4 G hgk hS hG
    obtain ⟨ao, kl, s8, hl8⟩ : (∃ ao kl, vals 8 = .slice ao (P.lst (T &&& P.places p g.owner g.owner.length)).length kl ∧ (P.lst (T &&& P.places p g.owner g.owner.length) = [] ∨ ∃ b, ao = some ⟨b, 0, none⟩ ∧ w2.heap.size ≤ b ∧ b < w4.heap.size ∧ ∀ j, j < (P.lst (T &&& P.places p g.owner g.owner.length)).length → w4.cell? ⟨b, j, none⟩ = some (.int .i64 (((P.lst (T &&& P.places p g.owner g.owner.length)).getD j 0 : Nat) : Int)))) := hS.2.2.2.2.2.2.2.2.1
    have s9 : vals 9 = .int .i64 (((P.lst (T &&& P.places p g.owner g.owner.length)).length : Nat) : Int) := hS.2.2.2.2.2.2.2.2.2.1
    have s10 : vals 10 = .int .i64 0 := hS.2.2.2.2.2.2.2.2.2.2.1
    clear hS
    have hb := below_of_grown (Rk.grown_of hgk)
    have HW24 := Lib.hid hb.size
    replace HS := Lib.hid (HS.out.on hb)
    replace BQi := Lib.hid (BQi.out.keep (grown_of_below hb none))
    replace BQt := Lib.hid (BQt.out.keep (grown_of_below hb none))
    replace W := Lib.hid (W.out.trans (hb.mono W.out.size))
    have HK4 : Hid (SlK qs pc w w4) := Lib.hid (SlK.of W.out)
    clear hb hgk
    obtain ⟨ln, hln⟩ : ∃ k, (P.lst (T &&& P.places p g.owner g.owner.length)).length = k := ⟨_, rfl⟩
    rw [hln] at s8 s9 hl8
    have HLL := Lib.hid hln
    have hl256 : ln ≤ 256 := by rw [← hln]; unfold P.lst; exact Nat.le_trans (List.length_filter_le _ _) (by simp)
    have HNI : Hid (qi ≠ qs ∧ qi ≠ pc) := Lib.hid (by have h1 := LEi.out; have h2 := HQ2.out; omega)
    refine hG ?_
    clear hG
    simp only [Nat.reduceAdd, Rg.putAll, Act.put, List.setIfInBounds_toArray, List.set_cons_succ, List.set_cons_zero, s8, s9, s10]
    clear s8 s9 s10
    by_cases hnil : P.lst (T &&& P.places p g.owner g.owner.length) = []
    · have hl0 : ln = 0 := by rw [← hln, hnil]; rfl
      clear hl8 hln hnil hl256
      rw [hl0] at HLL ⊢
      clear hl0
      go_wp2_with fail
      go_loopw [22] (fun iv wr => ∃ k : Nat, k ≤ 0 ∧ iv = .int .i64 (k : Int) ∧ Sl w0 wr qs pc n kq (.slice (some ⟨ba, oa, none⟩) n ka) (.slice (some ⟨bb, ob, none⟩) n kb) (.slice (some ⟨bc_, oc, none⟩) n kc) (P.styK g I (T &&& P.places p g.owner g.owner.length) c k) d ∧ SlK qs pc w4 wr) (fun iv _ => 0 - (intOf iv).toNat)
      case atStart => exact ⟨0, Nat.zero_le _, rfl, by rw [P.styK_zero]; exact HS.out, SlK.refl _ _ _⟩
      case round =>
        obtain ⟨k, hk, rfl, hs, hkx⟩ := hrel
        replace HS := Lib.hid hs
        have HK := Lib.hid hkx
        have hk0 : (0 : Int) ≤ (k : Int) := Int.natCast_nonneg _
        clear hs hkx
        have fk : decide ((k : Int) < 0) = false := decide_eq_false (by omega)
        have HST := Lib.hid (show P.styK g I (T &&& P.places p g.owner g.owner.length) c k = P.sty g p I T c from P.styK_all (HCL.out.trans HN.out.symm) (by have := HR.out.many; omega) (by have := HLL.out; omega))
        have HKW := Lib.hid (HK4.out.trans HK.out)
        go_wp2_with fail
        exact bodyPost_end (v := .tuple #[]) (by simp [results, Tryd.results49, go_sem]) rfl ⟨rfl, by rw [← HST.out]; exact HS.out, HKW.out⟩
    · obtain ⟨bl, rfl, hlo, hbl, hcl⟩ := hl8.resolve_left hnil
      have HLC := Lib.hid hcl
      have HBL : Hid (bl < w4.heap.size ∧ bl ∉ [qs, pc]) := Lib.hid ⟨hbl, by have h1 := HQ2.out; have h2 := HW2.out; simp; omega⟩
      clear hl8 hln hnil hlo hbl hcl
      go_wp2_with fail
      go_loopw [22] (fun iv wr => ∃ k : Nat, k ≤ ln ∧ iv = .int .i64 (k : Int) ∧ Sl w0 wr qs pc n kq (.slice (some ⟨ba, oa, none⟩) n ka) (.slice (some ⟨bb, ob, none⟩) n kb) (.slice (some ⟨bc_, oc, none⟩) n kc) (P.styK g I (T &&& P.places p g.owner g.owner.length) c k) d ∧ SlK qs pc w4 wr) (fun iv _ => ln - (intOf iv).toNat)
      case atStart => exact ⟨0, Nat.zero_le _, rfl, by rw [P.styK_zero]; exact HS.out, SlK.refl _ _ _⟩
      case round =>
        obtain ⟨k, hk, rfl, hs, hkx⟩ := hrel
        replace HS := Lib.hid hs
        have HK := Lib.hid hkx
        have hk0 : (0 : Int) ≤ (k : Int) := Int.natCast_nonneg _
        clear hs hkx
        by_cases hlt : k < ln
        · have fk : decide ((k : Int) < (ln : Int)) = true := decide_eq_true (by omega)
          have hki : (k : Int) < (ln : Int) := by omega
          have hc := kx_cell HK.out (HLC.out k hlt) HBL.out.1 HBL.out.1 HBL.out.2
          obtain ⟨x, hx⟩ : ∃ x, (P.lst (T &&& P.places p g.owner g.owner.length)).getD k 0 = x := ⟨_, rfl⟩
          rw [hx] at hc
          have hmem : x ∈ P.lst (T &&& P.places p g.owner g.owner.length) := by rw [← hx, List.getD_eq_getElem?_getD, List.getElem?_eq_getElem (by rw [HLL.out]; exact hlt)]; exact List.getElem_mem _
          have hxn : x < n := by
            have h1 := (P.mem_lst _ _).1 hmem
            rw [BitVec.getLsbD_and, Bool.and_eq_true] at h1
            exact HTN.out x h1.1
          have HX := Lib.hid hx
          have hx0 : (0 : Int) ≤ (x : Int) := Int.natCast_nonneg _
          have hxi : (x : Int) < (n : Int) := by omega
          clear hx hmem
          obtain ⟨rv, hcr, hri⟩ := HCC.out w0 (Below.refl _ _) x hxn
          have hne := (HR.out.at x (by rw [HN.out]; exact hxn)).2.2.2.1
          have HRI := Lib.hid hri
          obtain ⟨ro, mk, rfl, hml, hrc⟩ := hri
          obtain ⟨br, orr, rfl, hbr, hcy⟩ := hrc.resolve_left hne
          obtain ⟨ml, hmlq⟩ : ∃ z, (g.moves.getD x []).length = z := ⟨_, rfl⟩
          rw [hmlq] at hcr hcy HRI hml
          have hcm := (HS.out.low.cell (p := ⟨bc_, oc + x, none⟩) (cell_lt hcr)).trans hcr
          have HML := Lib.hid hmlq
          have HBRW := Lib.hid hbr
          have HCY := Lib.hid hcy
          have BQiK := Lib.hid (HK.out.box BQi.out HNI.out.1 HNI.out.2)
          clear hrc hcr hne hbr hcy hmlq
          have hbb := HS.out.box
          have sc0 : wr.cell? ⟨qs, 0, none⟩ = some (.slice (some ⟨ba, oa, none⟩) n ka) := hbb.cell 0 _ rfl
          have sc1 : wr.cell? ⟨qs, 1, none⟩ = some (.slice (some ⟨bb, ob, none⟩) n kb) := hbb.cell 1 _ rfl
          have sc2 : wr.cell? ⟨qs, 2, none⟩ = some (.slice (some ⟨bc_, oc, none⟩) n kc) := hbb.cell 2 _ rfl
          have sc3 : wr.cell? ⟨qs, 3, none⟩ = some (.slice (some ⟨pc, 0, none⟩) n kq) := hbb.cell 3 _ rfl
          have sc4 : wr.cell? ⟨qs, 4, none⟩ = some (.int .i64 d) := hbb.cell 4 _ rfl
          clear hbb
          have hbb := BQiK.out
          have ic0 : wr.cell? ⟨qi, 0, none⟩ = some (.int .u64 (P.wrd I 0)) := hbb.cell 0 _ rfl
          have ic1 : wr.cell? ⟨qi, 1, none⟩ = some (.int .u64 (P.wrd I 1)) := hbb.cell 1 _ rfl
          have ic2 : wr.cell? ⟨qi, 2, none⟩ = some (.int .u64 (P.wrd I 2)) := hbb.cell 2 _ rfl
          have ic3 : wr.cell? ⟨qi, 3, none⟩ = some (.int .u64 (P.wrd I 3)) := hbb.cell 3 _ rfl
          clear hbb
          go_wp2_with fail
          clear hc hcm sc0 sc1 sc2 sc3 sc4 ic0 ic1 ic2 ic3
          refine (indexf_any (g.moves.getD x []) I _ wr (HRI.out.on HS.out.low)).mono ?_
          rintro e w6 ⟨z, rfl, hz, hb⟩
          replace HS := Lib.hid (HS.out.on hb)
          replace HK := Lib.hid (HK.out.trans (SlK.of hb))
          clear hb
          rcases hz with ⟨rfl, hno⟩ | ⟨i, hil, rfl, hsome⟩
          · have HST := Lib.hid (show P.styK g I (T &&& P.places p g.owner g.owner.length) c (k + 1) = P.styK g I (T &&& P.places p g.owner g.owner.length) c k from P.styK_none (by rw [HLL.out]; exact hlt) (by rw [HX.out]; exact hno))
            clear hno
            go_wp2_with fail
            go_roundw
            case rel => exact ⟨k + 1, by omega, by first | rfl | go_num, by rw [HST.out]; exact HS.out, HK.out⟩
            case measure => simp [intOf]; omega
          · rw [HML.out] at hil
            have hi0 : (0 : Int) ≤ (i : Int) := Int.natCast_nonneg _
            have hii : (i : Int) < (ml : Int) := by omega
            have fi : decide ((0 : Int) ≤ (i : Int)) = true := decide_eq_true hi0
            obtain ⟨y, hy⟩ : ∃ y, (g.moves.getD x []).getD i 0 = y := ⟨_, rfl⟩
            rw [hy] at hsome
            have HYC := Lib.hid ((HCY.out i hil).trans (by rw [hy]))
            have HST := Lib.hid (show P.styK g I (T &&& P.places p g.owner g.owner.length) c (k + 1) = (P.styK g I (T &&& P.places p g.owner g.owner.length) c k).set x y from by rw [← HX.out]; exact P.styK_some (by rw [HLL.out]; exact hlt) (by rw [HX.out]; exact hsome) (by rw [HX.out, HCL.out]; exact hxn))
            clear hsome hy
            go_upto_region 7 with (fail)
            refine Rt.wp_region_tail 1 (fun idx => match idx with | 0 => (fun v _ _ => v = (.pointer (some ⟨qs, 0, none⟩))) | 1 => (fun v _ _ => v = (.pointer (some ⟨qs, 0, none⟩))) | 2 => (fun v _ _ => v = (.pointer (some ⟨qs, 3, none⟩))) | 3 => (fun v _ _ => v = (.slice (some ⟨pc, 0, none⟩) n kq)) | 4 => (fun v _ _ => v = (.int .i64 (x : Int))) | 5 => (fun v _ _ => v = (.slice (some ⟨br, orr, none⟩) ml mk)) | 6 => (fun v _ _ => v = (.int .i64 (i : Int))) | 7 => (fun v _ _ => v = (.pointer (some ⟨br, orr + i, none⟩))) | 8 => (fun v _ _ => v = (.int .i64 y)) | 9 => (fun v _ _ => v = (.pointer (some ⟨pc, x, none⟩))) | _ => fun _ _ _ => True) (fun _ _ _ _ => True) (Rk.allK) 99 (by kernel_rfl) (by rfl) (by kernel_rfl) (by rfl) ?_ ?_ ?_ ?_
            · refine ⟨?_, ?_, ?_, ?_, ?_, ?_, ?_, ?_, ?_, ?_, trivial⟩
              · intro A w' K vals h hn hT hgk hK0
                have r0 : A.tmps[0]?.getD undef = .pointer (some ⟨qs, 0, none⟩) := Rg.slot h.1
                clear h hn hT hgk
                simp [Oper.wp, execOp, go_sem, r0]
                exact hK0 _ _ (Rk.Keeps.refl _ _) rfl trivial
              · intro A w' K vals h hn hT hgk hK0
                have r0 : A.tmps[40]?.getD undef = vals 0 := Rg.slot h.1
                have s0 : vals 0 = .pointer (some ⟨qs, 0, none⟩) := hn.1
                clear h hn hT hgk
                simp [Oper.wp, execOp, go_sem, r0, s0]
                exact hK0 _ _ (Rk.Keeps.refl _ _) rfl trivial
              · intro A w' K vals h hn hT hgk hK0
                have r0 : A.tmps[41]?.getD undef = vals 1 := Rg.slot h.1
                have s0 : vals 1 = .pointer (some ⟨qs, 0, none⟩) := hn.1
                clear h hn hT hgk
                simp [Oper.wp, execOp, go_sem, r0, s0]
                exact hK0 _ _ (Rk.Keeps.refl _ _) rfl trivial
              · intro A w' K vals h hn hT hgk hK0
                have r0 : A.tmps[42]?.getD undef = vals 2 := Rg.slot (h.1)
                have r1 : vals 2 = (.pointer (some ⟨qs, 3, none⟩)) := hn.1
                have c : w'.cell? ⟨qs, 3, none⟩ = some (.slice (some ⟨pc, 0, none⟩) n kq) := (HS.out.box.keep (Rk.grown_of hgk)).cell 3 _ rfl
                clear h hn hT hgk
                simp [Oper.wp, execOp, go_sem, r0, r1, c]
                exact hK0 _ _ (Rk.Keeps.refl _ _) rfl trivial
              · intro A w' K vals h hn hT hgk hK0
                have r0 : A.tmps[9]?.getD undef = .int .i64 (x : Int) := Rg.slot h.1
                clear h hn hT hgk
                simp [Oper.wp, execOp, go_sem, r0]
                exact hK0 _ _ (Rk.Keeps.refl _ _) rfl trivial
              · intro A w' K vals h hn hT hgk hK0
                have r0 : A.tmps[10]?.getD undef = .slice (some ⟨br, orr, none⟩) ml mk := Rg.slot h.1
                clear h hn hT hgk
                simp [Oper.wp, execOp, go_sem, r0]
                exact hK0 _ _ (Rk.Keeps.refl _ _) rfl trivial
              · intro A w' K vals h hn hT hgk hK0
                have r0 : A.tmps[11]?.getD undef = .int .i64 (i : Int) := Rg.slot h.1
                clear h hn hT hgk
                simp [Oper.wp, execOp, go_sem, r0]
                exact hK0 _ _ (Rk.Keeps.refl _ _) rfl trivial
              · intro A w' K vals h hn hT hgk hK0
                have r0 : A.tmps[45]?.getD undef = vals 5 := Rg.slot h.1
                have s0 : vals 5 = (.slice (some ⟨br, orr, none⟩) ml mk) := hn.1
                have r1 : A.tmps[46]?.getD undef = vals 6 := Rg.slot h.2.1
                have s1 : vals 6 = (.int .i64 (i : Int)) := hn.2.1
                clear h hn hT hgk
                simp [Oper.wp, execOp, go_sem, r0, r1, s0, s1, hii, hi0]
                exact hK0 _ _ (Rk.Keeps.refl _ _) rfl trivial
              · intro A w' K vals h hn hT hgk hK0
                have r0 : A.tmps[47]?.getD undef = vals 7 := Rg.slot (h.1)
                have r1 : vals 7 = (.pointer (some ⟨br, orr + i, none⟩)) := hn.1
                have c : w'.cell? ⟨br, orr + i, none⟩ = some (.int .i64 y) := ((HS.out.low.trans ((below_of_grown (Rk.grown_of hgk)).mono HS.out.low.size)).cell (p := ⟨br, orr + i, none⟩) HBRW.out).trans HYC.out
                clear h hn hT hgk
                simp [Oper.wp, execOp, go_sem, r0, r1, c]
                exact hK0 _ _ (Rk.Keeps.refl _ _) rfl trivial
              · intro A w' K vals h hn hT hgk hK0
                have r0 : A.tmps[43]?.getD undef = vals 3 := Rg.slot h.1
                have s0 : vals 3 = (.slice (some ⟨pc, 0, none⟩) n kq) := hn.1
                have r1 : A.tmps[44]?.getD undef = vals 4 := Rg.slot h.2.1
                have s1 : vals 4 = (.int .i64 (x : Int)) := hn.2.1
                clear h hn hT hgk
                simp [Oper.wp, execOp, go_sem, r0, r1, s0, s1, hxi, hx0]
                exact hK0 _ _ (Rk.Keeps.refl _ _) rfl trivial
            · refine ⟨?_, ?_, ?_, ?_, ?_, ?_, ?_, ?_, ?_, ?_, trivial⟩
              · exact fun _ _ _ _ _ _ h => h
              · exact fun _ _ _ _ _ _ h => h
              · exact fun _ _ _ _ _ _ h => h
              · exact fun _ _ _ _ _ _ h => h
              · exact fun _ _ _ _ _ _ h => h
              · exact fun _ _ _ _ _ _ h => h
              · exact fun _ _ _ _ _ _ h => h
              · exact fun _ _ _ _ _ _ h => h
              · exact fun _ _ _ _ _ _ h => h
              · exact fun _ _ _ _ _ _ h => h
            · exact fun _ _ _ _ _ _ h => h
            · intro vals w8 G hgk hS hG
              have s8 : vals 8 = (.int .i64 y) := hS.2.2.2.2.2.2.2.2.1
              have s9 : vals 9 = (.pointer (some ⟨pc, x, none⟩)) := hS.2.2.2.2.2.2.2.2.2.1
              clear hS
              have hb := below_of_grown (Rk.grown_of hgk)
              have HS8 := Lib.hid (HS.out.on hb)
              have HK8 := Lib.hid (HK.out.trans (SlK.of hb))
              clear hb hgk
              refine hG ?_
              clear hG
              simp only [List.take, List.drop, List.length, Nat.reduceSub, Nat.reduceAdd, Rg.putAll, Act.put, List.setIfInBounds_toArray, List.set_cons_succ, List.set_cons_zero, s8, s9]
              clear s8 s9
              obtain ⟨cc_, cf_⟩ := HS8.out.cellc hxn
              have HS9 := Lib.hid (HS8.out.set x y)
              have HK9 := Lib.hid (HK8.out.trans (SlK.set (.inr rfl) x (.int .i64 y)))
              go_wp2_with fail
              clear cc_ cf_
              go_roundw
              case rel => exact ⟨k + 1, by omega, by first | rfl | go_num, by rw [HST.out]; exact HS9.out, HK9.out⟩
              case measure => simp [intOf]; omega
        · have fk : decide ((k : Int) < (ln : Int)) = false := decide_eq_false (by omega)
          have HST := Lib.hid (show P.styK g I (T &&& P.places p g.owner g.owner.length) c k = P.sty g p I T c from P.styK_all (HCL.out.trans HN.out.symm) (by have := HR.out.many; omega) (by have := HLL.out; omega))
          have HKW := Lib.hid (HK4.out.trans HK.out)
          go_wp2_with fail
          exact bodyPost_end (v := .tuple #[]) (by simp [results, Tryd.results49, go_sem]) rfl ⟨rfl, by rw [← HST.out]; exact HS.out, HKW.out⟩
end W
end Go.Proofs.YtpjmboonaciplaaDoor
