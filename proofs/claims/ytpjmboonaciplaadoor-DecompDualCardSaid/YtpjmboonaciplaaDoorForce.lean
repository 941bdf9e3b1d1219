/- A player forces its way: the solver's walk. -/
import Derived.Test.YtpjmboonaciplaaDoorSlv
import Derived.Test.YtpjmboonaciplaaDoorAttract
import Derived.Test.YtpjmboonaciplaaDoorRight
import Derived.Deep.Cut
import Derived.Lib.Hide
import Derived.Deep.QuietTactic
import Derived.BigQuiet
import Derived.StillTailTactics
namespace Go.Proofs.YtpjmboonaciplaaDoor
open Go.RowKit
namespace W

end W
namespace P
/-- The first k forced moves written over. -/
def frcK (c m : List Int) (k : Nat) : List Int := (List.range c.length).map fun j => if j < k ∧ m.getD j (-1) ≠ -1 then m.getD j (-1) else c.getD j (-1)
theorem frcK_at {c m : List Int} {k j : Nat} (hj : j < c.length) : (frcK c m k)[j]? = some (if j < k ∧ m.getD j (-1) ≠ -1 then m.getD j (-1) else c.getD j (-1)) := by
  unfold frcK
  rw [List.getElem?_map, List.getElem?_range hj]
  rfl
theorem frcK_len (c m : List Int) (k : Nat) : (frcK c m k).length = c.length := by unfold frcK; simp
theorem frcK_ext {c m l : List Int} {k : Nat} (hl : l.length = c.length) (h : ∀ j, j < c.length → l[j]? = some (if j < k ∧ m.getD j (-1) ≠ -1 then m.getD j (-1) else c.getD j (-1))) : frcK c m k = l := by
  apply List.ext_getElem?
  intro j
  by_cases hj : j < c.length
  · rw [frcK_at hj, h j hj]
  · rw [List.getElem?_eq_none (by rw [frcK_len]; omega), List.getElem?_eq_none (by omega)]
theorem frcK_zero (c m : List Int) : frcK c m 0 = c := frcK_ext rfl fun j hj => by
  rw [if_neg (by omega), List.getD_eq_getElem?_getD, List.getElem?_eq_getElem hj]
  rfl
theorem frcK_skip {c m : List Int} {k : Nat} (h : m.getD k (-1) = -1) : frcK c m (k + 1) = frcK c m k := by
  refine (frcK_ext (frcK_len _ _ _) fun j hj => ?_).symm
  rw [frcK_at hj]
  congr 1
  by_cases e : j = k
  · rw [if_neg (by rw [e, h]; simp), if_neg (by omega)]
  · by_cases h1 : j < k ∧ m.getD j (-1) ≠ -1
    · rw [if_pos h1, if_pos ⟨by omega, h1.2⟩]
    · rw [if_neg h1, if_neg (fun h2 => h1 ⟨by omega, h2.2⟩)]
theorem frcK_set {c m : List Int} {k : Nat} (h : m.getD k (-1) ≠ -1) (hk : k < c.length) : frcK c m (k + 1) = (frcK c m k).set k (m.getD k (-1)) := by
  refine frcK_ext (by rw [List.length_set, frcK_len]) fun j hj => ?_
  by_cases e : j = k
  · rw [e, List.getElem?_set_self (by rw [frcK_len]; exact hk), if_pos ⟨by omega, h⟩]
  · rw [List.getElem?_set_ne (Ne.symm e), frcK_at hj]
    congr 1
    by_cases h1 : j < k ∧ m.getD j (-1) ≠ -1
    · rw [if_pos h1, if_pos ⟨by omega, h1.2⟩]
    · rw [if_neg h1, if_neg (fun h2 => h1 ⟨by omega, h2.2⟩)]
theorem frcK_all {c m : List Int} : frcK c m c.length = frc c m := by
  refine frcK_ext (frc_len c m) fun j hj => ?_
  unfold frc
  rw [List.getElem?_map, List.getElem?_range hj]
  show some _ = some _
  congr 1
  show (if m.getD j (-1) = -1 then c.getD j (-1) else m.getD j (-1)) = _
  by_cases h : m.getD j (-1) = -1
  · rw [if_pos h, if_neg (fun h2 => h2.2 h)]
  · rw [if_neg h, if_pos ⟨hj, h⟩]
end P
namespace W
set_option maxRecDepth 100000 in
set_option maxHeartbeats 8000000 in
theorem force_any (g : P.G) (hr : g.Right) (n : Nat) (hn : g.owner.length = n) (w0 : World) (ba oa ka bb ob kb bc_ oc kc : Nat) (hv : GameV w0 (.agg #[.slice (some ⟨ba, oa, none⟩) n ka, .slice (some ⟨bb, ob, none⟩) n kb, .slice (some ⟨bc_, oc, none⟩) n kc]) g) (hT : Tab w0) (qs pc kq : Nat) (c : List Int) (d : Int) (w : World) (hS : Sl w0 w qs pc n kq (.slice (some ⟨ba, oa, none⟩) n ka) (.slice (some ⟨bb, ob, none⟩) n kb) (.slice (some ⟨bc_, oc, none⟩) n kc) c d) (p : Int) (hp : p = 0 ∨ p = 1) (I To : BitVec 256) :
    Calls Tryd.prog 47 #[.pointer (some ⟨qs, 0, none⟩), .agg #[.int .u64 (P.wrd I 0), .int .u64 (P.wrd I 1), .int .u64 (P.wrd I 2), .int .u64 (P.wrd I 3)], .int .i64 p, .agg #[.int .u64 (P.wrd To 0), .int .u64 (P.wrd To 1), .int .u64 (P.wrd To 2), .int .u64 (P.wrd To 3)]] w fun e w' => e = .returned (.agg #[.int .u64 (P.wrd (P.attOf g I p To) 0), .int .u64 (P.wrd (P.attOf g I p To) 1), .int .u64 (P.wrd (P.attOf g I p To) 2), .int .u64 (P.wrd (P.attOf g I p To) 3)]) ∧ ∃ m, P.Played g (I &&& P.full (g.owner.length : Int)) p To m ∧ Sl w0 w' qs pc n kq (.slice (some ⟨ba, oa, none⟩) n ka) (.slice (some ⟨bb, ob, none⟩) n kb) (.slice (some ⟨bc_, oc, none⟩) n kc) (P.frc c m) d ∧ SlK qs pc w w' := by
  have HOK := Lib.hid ((P.G.ok_iff g).2 hr)
  have HV := Lib.hid hv
  have T := Lib.hid hT
  have HR := Lib.hid hr
  have HN := Lib.hid hn
  have hop := hr.prio
  have hmp := hr.moves
  have hmany := hr.many
  have h0 := hr.pos
  rw [hn] at hop hmp hmany h0
  have HPN := Lib.hid hop
  obtain ⟨xba, xoa, xka, xbb, xob, xkb, xbc, xoc, xkc, e0, hca, hcb, hcc⟩ := hv.open_ hn hop hmp h0
  injection e0 with e0
  obtain ⟨⟨⟨rfl, rfl⟩, rfl⟩, ⟨⟨rfl, rfl⟩, rfl⟩, ⟨rfl, rfl⟩, rfl⟩ : (((ba = xba ∧ oa = xoa) ∧ ka = xka) ∧ ((bb = xbb ∧ ob = xob) ∧ kb = xkb) ∧ (bc_ = xbc ∧ oc = xoc) ∧ kc = xkc) := by simpa using e0
  have HCA := Lib.hid hca
  have HCB := Lib.hid hcb
  have HCC := Lib.hid hcc
  clear e0 hca hcb hcc hv hT hr hn hop hmp
  have HS := Lib.hid hS
  have HP := Lib.hid hp
  have HCL := Lib.hid hS.len
  have HQ2 : Hid (qs < w.heap.size ∧ pc < w.heap.size) := Lib.hid ⟨hS.box.lt, hS.plo.2⟩
  have HSZ : Hid (w0.heap.size ≤ w.heap.size) := Lib.hid hS.low.size
  clear hS hp
  go_enter Tryd.func47, Tryd.ntmps47
  go_upto_region 1 with (fail)
  have bx0 : Box (((w.alloc (.cells #[.int .u64 (P.wrd I 0), .int .u64 (P.wrd I 1), .int .u64 (P.wrd I 2), .int .u64 (P.wrd I 3)] 45)).alloc (.cells #[.int .u64 (P.wrd To 0), .int .u64 (P.wrd To 1), .int .u64 (P.wrd To 2), .int .u64 (P.wrd To 3)] 45)).alloc (.cells #[.int .u64 0, .int .u64 0, .int .u64 0, .int .u64 0] 45)) (w.heap.size) 45 #[.int .u64 (P.wrd I 0), .int .u64 (P.wrd I 1), .int .u64 (P.wrd I 2), .int .u64 (P.wrd I 3)] := Box.alloc (Box.alloc (Box.new w 45 #[.int .u64 (P.wrd I 0), .int .u64 (P.wrd I 1), .int .u64 (P.wrd I 2), .int .u64 (P.wrd I 3)]) (.cells #[.int .u64 (P.wrd To 0), .int .u64 (P.wrd To 1), .int .u64 (P.wrd To 2), .int .u64 (P.wrd To 3)] 45)) (.cells #[.int .u64 0, .int .u64 0, .int .u64 0, .int .u64 0] 45)
  have bx1 : Box (((w.alloc (.cells #[.int .u64 (P.wrd I 0), .int .u64 (P.wrd I 1), .int .u64 (P.wrd I 2), .int .u64 (P.wrd I 3)] 45)).alloc (.cells #[.int .u64 (P.wrd To 0), .int .u64 (P.wrd To 1), .int .u64 (P.wrd To 2), .int .u64 (P.wrd To 3)] 45)).alloc (.cells #[.int .u64 0, .int .u64 0, .int .u64 0, .int .u64 0] 45)) (w.heap.size + 1) 45 #[.int .u64 (P.wrd To 0), .int .u64 (P.wrd To 1), .int .u64 (P.wrd To 2), .int .u64 (P.wrd To 3)] := by
    have := Box.alloc (Box.new (w.alloc (.cells #[.int .u64 (P.wrd I 0), .int .u64 (P.wrd I 1), .int .u64 (P.wrd I 2), .int .u64 (P.wrd I 3)] 45)) 45 #[.int .u64 (P.wrd To 0), .int .u64 (P.wrd To 1), .int .u64 (P.wrd To 2), .int .u64 (P.wrd To 3)]) (.cells #[.int .u64 0, .int .u64 0, .int .u64 0, .int .u64 0] 45)
    simpa using this
  have bx2 : Box (((w.alloc (.cells #[.int .u64 (P.wrd I 0), .int .u64 (P.wrd I 1), .int .u64 (P.wrd I 2), .int .u64 (P.wrd I 3)] 45)).alloc (.cells #[.int .u64 (P.wrd To 0), .int .u64 (P.wrd To 1), .int .u64 (P.wrd To 2), .int .u64 (P.wrd To 3)] 45)).alloc (.cells #[.int .u64 0, .int .u64 0, .int .u64 0, .int .u64 0] 45)) (w.heap.size + 1 + 1) 45 #[.int .u64 0, .int .u64 0, .int .u64 0, .int .u64 0] := by
    have := Box.new ((w.alloc (.cells #[.int .u64 (P.wrd I 0), .int .u64 (P.wrd I 1), .int .u64 (P.wrd I 2), .int .u64 (P.wrd I 3)] 45)).alloc (.cells #[.int .u64 (P.wrd To 0), .int .u64 (P.wrd To 1), .int .u64 (P.wrd To 2), .int .u64 (P.wrd To 3)] 45)) 45 #[.int .u64 0, .int .u64 0, .int .u64 0, .int .u64 0]
    simpa using this
  have hbq : Below w.heap.size w (((w.alloc (.cells #[.int .u64 (P.wrd I 0), .int .u64 (P.wrd I 1), .int .u64 (P.wrd I 2), .int .u64 (P.wrd I 3)] 45)).alloc (.cells #[.int .u64 (P.wrd To 0), .int .u64 (P.wrd To 1), .int .u64 (P.wrd To 2), .int .u64 (P.wrd To 3)] 45)).alloc (.cells #[.int .u64 0, .int .u64 0, .int .u64 0, .int .u64 0] 45)) := (((Below.refl _ w).alloc (Nat.le_refl _) _).alloc (by simp) _).alloc (by simp; omega) _
  have lt0 : w.heap.size < w.heap.size + 1 := Nat.lt_succ_self _
  have lt1 : w.heap.size + 1 < w.heap.size + 1 + 1 := Nat.lt_succ_self _
  have hle0 : w.heap.size ≤ w.heap.size := Nat.le_refl _
  replace HS := Lib.hid (HS.out.on hbq)
  generalize (((w.alloc (.cells #[.int .u64 (P.wrd I 0), .int .u64 (P.wrd I 1), .int .u64 (P.wrd I 2), .int .u64 (P.wrd I 3)] 45)).alloc (.cells #[.int .u64 (P.wrd To 0), .int .u64 (P.wrd To 1), .int .u64 (P.wrd To 2), .int .u64 (P.wrd To 3)] 45)).alloc (.cells #[.int .u64 0, .int .u64 0, .int .u64 0, .int .u64 0] 45)) = w2 at bx0 bx1 bx2 hbq HS ⊢
  have BQi := Lib.hid bx0
  have BQt := Lib.hid bx1
  have BQr := Lib.hid bx2
  have W := Lib.hid hbq
  have LTit := Lib.hid lt0
  have LTtr := Lib.hid lt1
  have LEi := Lib.hid hle0
  clear hbq hle0 bx0 bx1 bx2 lt0 lt1
  generalize w.heap.size + 1 + 1 = qr at BQr LTtr ⊢
  generalize w.heap.size + 1 = qt at BQt LTtr LTit ⊢
  obtain ⟨qi, hqi⟩ : ∃ qi, w.heap.size = qi := ⟨_, rfl⟩
  rw [hqi] at BQi LTit ⊢
  have LEi : Hid (w.heap.size ≤ qi) := Lib.hid (by omega)
  clear hqi
  have HW2 : Hid (w.heap.size ≤ w2.heap.size) := Lib.hid W.out.size
  refine Rt.wp_region_tail 1 (fun idx => match idx with | 0 => (fun v _ _ => v = (.pointer (some ⟨qs, 0, none⟩))) | 1 => (fun v _ _ => v = (.pointer (some ⟨qs, 0, none⟩))) | 2 => (fun v _ _ => v = (.pointer (some ⟨qs, 0, none⟩))) | 3 => (fun v _ _ => v = .agg #[.slice (some ⟨ba, oa, none⟩) n ka, .slice (some ⟨bb, ob, none⟩) n kb, .slice (some ⟨bc_, oc, none⟩) n kc]) | 4 => (fun v _ _ => v = .agg #[.int .u64 (P.wrd I 0), .int .u64 (P.wrd I 1), .int .u64 (P.wrd I 2), .int .u64 (P.wrd I 3)]) | 5 => (fun v _ _ => v = (.int .i64 p)) | 6 => (fun v _ _ => v = .agg #[.int .u64 (P.wrd To 0), .int .u64 (P.wrd To 1), .int .u64 (P.wrd To 2), .int .u64 (P.wrd To 3)]) | 7 => (fun v _ w' => (∃ x k m, v = .tuple #[.agg #[.int .u64 (P.wrd (P.attOf g I p To) 0), .int .u64 (P.wrd (P.attOf g I p To) 1), .int .u64 (P.wrd (P.attOf g I p To) 2), .int .u64 (P.wrd (P.attOf g I p To) 3)], .slice x m.length k] ∧ OwnI w' w2.heap.size (.slice x m.length k) m ∧ P.Played g (I &&& P.full (g.owner.length : Int)) p To m)) | 8 => (fun v ds w' => v = ds.getD 0 undef ∧ (∃ x k m, v = .tuple #[.agg #[.int .u64 (P.wrd (P.attOf g I p To) 0), .int .u64 (P.wrd (P.attOf g I p To) 1), .int .u64 (P.wrd (P.attOf g I p To) 2), .int .u64 (P.wrd (P.attOf g I p To) 3)], .slice x m.length k] ∧ OwnI w' w2.heap.size (.slice x m.length k) m ∧ P.Played g (I &&& P.full (g.owner.length : Int)) p To m)) | 9 => (fun v _ _ => v = .agg #[.int .u64 (P.wrd (P.attOf g I p To) 0), .int .u64 (P.wrd (P.attOf g I p To) 1), .int .u64 (P.wrd (P.attOf g I p To) 2), .int .u64 (P.wrd (P.attOf g I p To) 3)]) | 10 => (fun v _ w' => (∃ x k m, v = .slice x m.length k ∧ OwnI w' w2.heap.size (.slice x m.length k) m ∧ P.Played g (I &&& P.full (g.owner.length : Int)) p To m)) | 11 => (fun v _ _ => (∃ q, v = .pointer (some ⟨q, 0, none⟩) ∧ w2.heap.size ≤ q)) | 12 => (fun _ ds w' => ∃ q, ds.getD 0 undef = .pointer (some ⟨q, 0, none⟩) ∧ w2.heap.size ≤ q ∧ Box w' q 45 #[.int .u64 (P.wrd (P.attOf g I p To) 0), .int .u64 (P.wrd (P.attOf g I p To) 1), .int .u64 (P.wrd (P.attOf g I p To) 2), .int .u64 (P.wrd (P.attOf g I p To) 3)]) | _ => fun _ _ _ => True) (fun idx => match idx with | 11 => (fun v _ w' => (∃ q, v = .pointer (some ⟨q, 0, none⟩) ∧ w2.heap.size ≤ q ∧ Box w' q 45 #[.int .u64 0, .int .u64 0, .int .u64 0, .int .u64 0])) | _ => fun _ _ _ => True) (KI w2.heap.size) 12 (by kernel_rfl) (by rfl) (by kernel_rfl) (by rfl) ?_ ?_ ?_ ?_
  · refine ⟨?_, ?_, ?_, ?_, ?_, ?_, ?_, ?_, ?_, ?_, ?_, ?_, ?_, trivial⟩
    · intro A w' K vals h hn hT hgk hK0
      have r0 : A.tmps[0]?.getD undef = .pointer (some ⟨qs, 0, none⟩) := Rg.slot h.1
      clear h hn hT hgk
      simp [Oper.wp, execOp, go_sem, r0]
      exact hK0 _ _ (Rk.Keeps.refl _ _) rfl trivial
    · intro A w' K vals h hn hT hgk hK0
      have r0 : A.tmps[14]?.getD undef = vals 0 := Rg.slot h.1
      have s0 : vals 0 = .pointer (some ⟨qs, 0, none⟩) := hn.1
      clear h hn hT hgk
      simp [Oper.wp, execOp, go_sem, r0, s0]
      exact hK0 _ _ (Rk.Keeps.refl _ _) rfl trivial
    · intro A w' K vals h hn hT hgk hK0
      have r0 : A.tmps[15]?.getD undef = vals 1 := Rg.slot h.1
      have s0 : vals 1 = .pointer (some ⟨qs, 0, none⟩) := hn.1
      clear h hn hT hgk
      simp [Oper.wp, execOp, go_sem, r0, s0]
      exact hK0 _ _ (Rk.Keeps.refl _ _) rfl trivial
    · intro A w' K vals h hn hT hgk hK0
      have r0 : A.tmps[16]?.getD undef = vals 2 := Rg.slot h.1
      have r1 : vals 2 = (.pointer (some ⟨qs, 0, none⟩)) := hn.1
      have bs := ki_box hgk HS.out.box HS.out.box.lt
      have cc0 : w'.cell? ⟨qs, 0, none⟩ = some (.slice (some ⟨ba, oa, none⟩) n ka) := bs.cell 0 _ rfl
      have cc1 : w'.cell? ⟨qs, 1, none⟩ = some (.slice (some ⟨bb, ob, none⟩) n kb) := bs.cell 1 _ rfl
      have cc2 : w'.cell? ⟨qs, 2, none⟩ = some (.slice (some ⟨bc_, oc, none⟩) n kc) := bs.cell 2 _ rfl
      clear h hn hT hgk bs
      simp [Oper.wp, execOp, go_sem, r0, r1, cc0, cc1, cc2]
      exact hK0 _ _ (Rk.Keeps.refl _ _) rfl trivial
    · intro A w' K vals h hn hT hgk hK0
      have r0 : A.tmps[5]?.getD undef = (.pointer (some ⟨qi, 0, none⟩)) := Rg.slot h.1
      have bs := ki_box hgk BQi.out BQi.out.lt
      have cc0 : w'.cell? ⟨qi, 0, none⟩ = some (.int .u64 (P.wrd I 0)) := bs.cell 0 _ rfl
      have cc1 : w'.cell? ⟨qi, 1, none⟩ = some (.int .u64 (P.wrd I 1)) := bs.cell 1 _ rfl
      have cc2 : w'.cell? ⟨qi, 2, none⟩ = some (.int .u64 (P.wrd I 2)) := bs.cell 2 _ rfl
      have cc3 : w'.cell? ⟨qi, 3, none⟩ = some (.int .u64 (P.wrd I 3)) := bs.cell 3 _ rfl
      clear h hn hT hgk bs
      simp [Oper.wp, execOp, go_sem, r0, cc0, cc1, cc2, cc3]
      exact hK0 _ _ (Rk.Keeps.refl _ _) rfl trivial
    · intro A w' K vals h hn hT hgk hK0
      have r0 : A.tmps[2]?.getD undef = .int .i64 p := Rg.slot h.1
      clear h hn hT hgk
      simp [Oper.wp, execOp, go_sem, r0]
      exact hK0 _ _ (Rk.Keeps.refl _ _) rfl trivial
    · intro A w' K vals h hn hT hgk hK0
      have r0 : A.tmps[7]?.getD undef = (.pointer (some ⟨qt, 0, none⟩)) := Rg.slot h.1
      have bs := ki_box hgk BQt.out BQt.out.lt
      have cc0 : w'.cell? ⟨qt, 0, none⟩ = some (.int .u64 (P.wrd To 0)) := bs.cell 0 _ rfl
      have cc1 : w'.cell? ⟨qt, 1, none⟩ = some (.int .u64 (P.wrd To 1)) := bs.cell 1 _ rfl
      have cc2 : w'.cell? ⟨qt, 2, none⟩ = some (.int .u64 (P.wrd To 2)) := bs.cell 2 _ rfl
      have cc3 : w'.cell? ⟨qt, 3, none⟩ = some (.int .u64 (P.wrd To 3)) := bs.cell 3 _ rfl
      clear h hn hT hgk bs
      simp [Oper.wp, execOp, go_sem, r0, cc0, cc1, cc2, cc3]
      exact hK0 _ _ (Rk.Keeps.refl _ _) rfl trivial
    · intro A w' K vals h hn hT hgk hK0
      have r0 : A.tmps[17]?.getD undef = vals 3 := Rg.slot h.2.1
      have r1 : A.tmps[18]?.getD undef = vals 4 := Rg.slot h.2.2.1
      have r2 : A.tmps[19]?.getD undef = vals 5 := Rg.slot h.2.2.2.1
      have r3 : A.tmps[20]?.getD undef = vals 6 := Rg.slot h.2.2.2.2.1
      have s0 : vals 3 = .agg #[.slice (some ⟨ba, oa, none⟩) n ka, .slice (some ⟨bb, ob, none⟩) n kb, .slice (some ⟨bc_, oc, none⟩) n kc] := hn.1
      have s1 : vals 4 = .agg #[.int .u64 (P.wrd I 0), .int .u64 (P.wrd I 1), .int .u64 (P.wrd I 2), .int .u64 (P.wrd I 3)] := hn.2.1
      have s2 : vals 5 = .int .i64 p := hn.2.2.1
      have s3 : vals 6 = .agg #[.int .u64 (P.wrd To 0), .int .u64 (P.wrd To 1), .int .u64 (P.wrd To 2), .int .u64 (P.wrd To 3)] := hn.2.2.2.1
      have hsz := hgk.size
      have hb := HS.out.low.trans ((ki_below hgk (Nat.le_refl _)).mono HS.out.low.size)
      clear h hn hT
      simp [Oper.wp, go_sem, r0, r1, r2, r3, s0, s1, s2, s3]
      refine (attract_any g I To p _ w' (HV.out.on hb) (T.out.on hb)).mono ?_
      rintro e w'' ⟨v, m, rfl, ho, hpl, hb⟩
      rw [if_pos ⟨HOK.out, HP.out⟩] at hpl
      obtain ⟨x, k, rfl, -⟩ := own_at ho
      exact hK0 _ _ (Rk.keep_of (grown_of_below hb _)) ⟨x, k, m, rfl, own_more ho hsz, hpl⟩ trivial
    · intro A w' K vals h hn hT hgk hK0
      have r0 : A.tmps[21]?.getD undef = vals 7 := Rg.slot h.1
      have n3 : (∃ x k m, vals 7 = .tuple #[.agg #[.int .u64 (P.wrd (P.attOf g I p To) 0), .int .u64 (P.wrd (P.attOf g I p To) 1), .int .u64 (P.wrd (P.attOf g I p To) 2), .int .u64 (P.wrd (P.attOf g I p To) 3)], .slice x m.length k] ∧ OwnI w' w2.heap.size (.slice x m.length k) m ∧ P.Played g (I &&& P.full (g.owner.length : Int)) p To m) := hn.1
      clear h hn hT hgk
      simp [Oper.wp, execOp, go_sem, r0]
      exact hK0 _ _ (Rk.Keeps.refl _ _) ⟨rfl, n3⟩ trivial
    · intro A w' K vals h hn hT hgk hK0
      have r0 : A.tmps[13]?.getD undef = vals 8 := Rg.slot h.1
      obtain ⟨x, k, m, hv, ho, hpl⟩ : (∃ x k m, vals 8 = .tuple #[.agg #[.int .u64 (P.wrd (P.attOf g I p To) 0), .int .u64 (P.wrd (P.attOf g I p To) 1), .int .u64 (P.wrd (P.attOf g I p To) 2), .int .u64 (P.wrd (P.attOf g I p To) 3)], .slice x m.length k] ∧ OwnI w' w2.heap.size (.slice x m.length k) m ∧ P.Played g (I &&& P.full (g.owner.length : Int)) p To m) := hn.1.2
      clear h hn hT hgk
      simp [Oper.wp, execOp, go_sem, r0, hv]
      exact hK0 _ _ (Rk.Keeps.refl _ _) rfl trivial
    · intro A w' K vals h hn hT hgk hK0
      have r0 : A.tmps[13]?.getD undef = vals 8 := Rg.slot h.1
      obtain ⟨x, k, m, hv, ho, hpl⟩ : (∃ x k m, vals 8 = .tuple #[.agg #[.int .u64 (P.wrd (P.attOf g I p To) 0), .int .u64 (P.wrd (P.attOf g I p To) 1), .int .u64 (P.wrd (P.attOf g I p To) 2), .int .u64 (P.wrd (P.attOf g I p To) 3)], .slice x m.length k] ∧ OwnI w' w2.heap.size (.slice x m.length k) m ∧ P.Played g (I &&& P.full (g.owner.length : Int)) p To m) := hn.1.2
      clear h hn hT hgk
      simp [Oper.wp, execOp, go_sem, r0, hv]
      exact hK0 _ _ (Rk.Keeps.refl _ _) ⟨x, k, m, rfl, ho, hpl⟩ trivial
    · intro A w' K vals h hn hT hgk hK0
      have hsz := hgk.size
      clear h hn hT
      simp [Oper.wp, execOp, go_sem]
      exact hK0 _ _ (Rk.keep_of (World.grownBy_alloc _ _ _)) ⟨_, rfl, hsz⟩ ⟨_, rfl, hsz, Box.new _ _ _⟩
    · intro A w' K vals h hn hT hgk hK0
      have r0 : A.tmps[9]?.getD undef = vals 11 := Rg.slot h.1
      have r1 : A.tmps[22]?.getD undef = vals 9 := Rg.slot h.2.1
      obtain ⟨q, s0, hq, bs⟩ : (∃ q, vals 11 = .pointer (some ⟨q, 0, none⟩) ∧ w2.heap.size ≤ q ∧ Box w' q 45 #[.int .u64 0, .int .u64 0, .int .u64 0, .int .u64 0]) := (hT rfl).1
      have s1 : vals 9 = .agg #[.int .u64 (P.wrd (P.attOf g I p To) 0), .int .u64 (P.wrd (P.attOf g I p To) 1), .int .u64 (P.wrd (P.attOf g I p To) 2), .int .u64 (P.wrd (P.attOf g I p To) 3)] := hn.2.1
      have rc0 : w'.cell? ⟨q, 0, none⟩ = some (.int .u64 0) := bs.cell 0 _ rfl
      have rc1 : w'.cell? ⟨q, 1, none⟩ = some (.int .u64 0) := bs.cell 1 _ rfl
      have rc2 : w'.cell? ⟨q, 2, none⟩ = some (.int .u64 0) := bs.cell 2 _ rfl
      have rc3 : w'.cell? ⟨q, 3, none⟩ = some (.int .u64 0) := bs.cell 3 _ rfl
      have rf0 : w'.frozen? ⟨q, 0, none⟩ = false := bs.frozen 0
      have rf1 : w'.frozen? ⟨q, 1, none⟩ = false := bs.frozen 1
      have rf2 : w'.frozen? ⟨q, 2, none⟩ = false := bs.frozen 2
      have rf3 : w'.frozen? ⟨q, 3, none⟩ = false := bs.frozen 3
      clear h hn hT hgk
      have hK1 := hK0 undef ((((w'.setCell ⟨q, 0, none⟩ (.int .u64 (P.wrd (P.attOf g I p To) 0))).setCell ⟨q, 1, none⟩ (.int .u64 (P.wrd (P.attOf g I p To) 1))).setCell ⟨q, 2, none⟩ (.int .u64 (P.wrd (P.attOf g I p To) 2))).setCell ⟨q, 3, none⟩ (.int .u64 (P.wrd (P.attOf g I p To) 3))) (ki_set4 hq bs (by decide) _ _ _ _) ⟨q, s0, hq, ((((bs.set 0 (.int .u64 (P.wrd (P.attOf g I p To) 0))).set 1 (.int .u64 (P.wrd (P.attOf g I p To) 1))).set 2 (.int .u64 (P.wrd (P.attOf g I p To) 2))).set 3 (.int .u64 (P.wrd (P.attOf g I p To) 3)))⟩ trivial
      clear hK0 bs
      simp [Oper.wp, execOp, go_sem, r0, r1, s0, s1, rc0, rc1, rc2, rc3, rf0, rf1, rf2, rf3]
      exact hK1
  · refine ⟨?_, ?_, ?_, ?_, ?_, ?_, ?_, ?_, ?_, ?_, ?_, ?_, ?_, trivial⟩
    · exact fun _ _ _ _ _ _ h => h
    · exact fun _ _ _ _ _ _ h => h
    · exact fun _ _ _ _ _ _ h => h
    · exact fun _ _ _ _ _ _ h => h
    · exact fun _ _ _ _ _ _ h => h
    · exact fun _ _ _ _ _ _ h => h
    · exact fun _ _ _ _ _ _ h => h
    · exact fun _ _ _ _ _ h ⟨x, k, m, h1, h2, h3⟩ => ⟨x, k, m, h1, ki_own h2 h, h3⟩
    · exact fun _ _ _ _ _ h ⟨h0, x, k, m, h1, h2, h3⟩ => ⟨h0, x, k, m, h1, ki_own h2 h, h3⟩
    · exact fun _ _ _ _ _ _ h => h
    · exact fun _ _ _ _ _ h ⟨x, k, m, h1, h2, h3⟩ => ⟨x, k, m, h1, ki_own h2 h, h3⟩
    · exact fun _ _ _ _ _ _ h => h
    · exact fun _ _ _ _ _ h ⟨q, h1, h2, h3⟩ => ⟨q, h1, h2, h3.keep (Rk.grown_of h)⟩
  · intro k v ds w w' hk h
    match k, h with
    | 11, ⟨q, h1, h2, h3⟩ => exact ⟨q, h1, h2, h3.keep (Rk.grown_of hk)⟩
    | 0, _ | 1, _ | 2, _ | 3, _ | 4, _ | 5, _ | 6, _ | 7, _ | 8, _ | 9, _ | 10, _ | _ + 12, _ => trivial
  · intro vals w4 G hgk hS hG
    obtain ⟨x, km, m, s10, hom, hpl⟩ : (∃ x k m, vals 10 = .slice x m.length k ∧ OwnI w4 w2.heap.size (.slice x m.length k) m ∧ P.Played g (I &&& P.full (g.owner.length : Int)) p To m) := hS.2.2.2.2.2.2.2.2.2.2.1
    obtain ⟨qn, s11, hqn⟩ : ∃ q, vals 11 = .pointer (some ⟨q, 0, none⟩) ∧ w2.heap.size ≤ q := hS.2.2.2.2.2.2.2.2.2.2.2.1
    obtain ⟨q2, e2, -, hbn⟩ : ∃ q, vals 11 = .pointer (some ⟨q, 0, none⟩) ∧ w2.heap.size ≤ q ∧ Box w4 q 45 #[.int .u64 (P.wrd (P.attOf g I p To) 0), .int .u64 (P.wrd (P.attOf g I p To) 1), .int .u64 (P.wrd (P.attOf g I p To) 2), .int .u64 (P.wrd (P.attOf g I p To) 3)] := hS.2.2.2.2.2.2.2.2.2.2.2.2.1
    clear hS
    obtain rfl : qn = q2 := by rw [s11] at e2; injection e2 with e2; injection e2 with e2; injection e2
    have hml : m.length = n := by
      obtain ⟨A_, Q_, o_, v_, -, hm⟩ := hpl
      rw [hm, P.rowOf_len, HN.out]
    rw [hml] at hom s10
    obtain ⟨bm, km2, e3, hlo, hlt, hcm, -⟩ := own_form (show w4.ownsRow w2.heap.size 3 1 (.slice x n km) n (m.map (Value.int .i64)) by unfold OwnI at hom; rw [hml] at hom; exact hom) h0
    injection e3 with e3 _ e4
    subst e3 e4
    have hb := ki_below hgk (Nat.le_refl _)
    have HB24 := Lib.hid hb
    replace HS := Lib.hid (HS.out.on hb)
    replace BQi := Lib.hid (BQi.out.keep (grown_of_below hb none))
    replace BQt := Lib.hid (BQt.out.keep (grown_of_below hb none))
    replace BQr := Lib.hid (BQr.out.keep (grown_of_below hb none))
    replace W := Lib.hid (W.out.trans (hb.mono W.out.size))
    have BQn := Lib.hid hbn
    have HPL := Lib.hid hpl
    have hq2 := HQ2.out
    have hsz := HSZ.out
    have hlt1 := LTit.out
    have hlt2 := LTtr.out
    have hle := LEi.out
    have hw2 := HW2.out
    have HMC := Lib.hid (show ∀ j, j < n → w4.cell? ⟨bm, j, none⟩ = some (.int .i64 (m.getD j (-1))) from fun j hj => hcm j _ (by
      rw [List.getElem?_map, List.getD_eq_getElem?_getD, List.getElem?_eq_getElem (by omega)]
      rfl))
    have HBM : Hid (bm < w4.heap.size ∧ bm ∉ [qs, pc]) := Lib.hid ⟨hlt, by simp; omega⟩
    have HNR : Hid (qr ≠ qs ∧ qr ≠ pc) := Lib.hid (by omega)
    have HNN : Hid (qn ≠ qs ∧ qn ≠ pc) := Lib.hid (by omega)
    have HRW : Hid (w.heap.size ≤ qr) := Lib.hid (by omega)
    have HRL : Hid (w0.heap.size ≤ qr) := Lib.hid (by omega)
    have HK4 : Hid (SlK qs pc w w4) := Lib.hid (SlK.of W.out)
    clear hb hgk hom hpl hml hcm hlo hlt hbn hqn e2 hq2 hsz hlt1 hlt2 hle hw2
    refine hG ?_
    clear hG
    simp only [List.take, List.drop, List.length, Nat.reduceSub, Nat.reduceAdd, Rg.putAll, Act.put, List.setIfInBounds_toArray, List.set_cons_succ, List.set_cons_zero, s10, s11]
    clear s10 s11
    go_wp2_with fail
    go_loopw [26] (fun iv wr => ∃ k : Nat, k ≤ n ∧ iv = .int .i64 (k : Int) ∧ Sl w0 wr qs pc n kq (.slice (some ⟨ba, oa, none⟩) n ka) (.slice (some ⟨bb, ob, none⟩) n kb) (.slice (some ⟨bc_, oc, none⟩) n kc) (P.frcK c m k) d ∧ SlK qs pc w4 wr) (fun iv _ => n - (intOf iv).toNat)
    case atStart => exact ⟨0, Nat.zero_le _, rfl, by rw [P.frcK_zero]; exact HS.out, SlK.refl _ _ _⟩
    case round =>
      obtain ⟨k, hk, rfl, hs, hkx⟩ := hrel
      have HS2 := Lib.hid hs
      have HK2 := Lib.hid hkx
      have hk0 : (0 : Int) ≤ (k : Int) := Int.natCast_nonneg _
      clear hs hkx
      by_cases hlt : k < n
      · have fk : decide ((k : Int) < (n : Int)) = true := decide_eq_true (by omega)
        have hki : (k : Int) < (n : Int) := by omega
        have hc := kx_cell HK2.out (HMC.out k hlt) HBM.out.1 HBM.out.1 HBM.out.2
        obtain ⟨y, hy⟩ : ∃ y, m.getD k (-1) = y := ⟨_, rfl⟩
        rw [hy] at hc
        have HY := Lib.hid hy
        clear hy
        by_cases hy1 : y = -1
        · have fy : (y != -1) = false := by rw [bne_eq_false_iff_eq]; exact hy1
          have HSK := Lib.hid (show P.frcK c m (k + 1) = P.frcK c m k from P.frcK_skip (by rw [HY.out]; exact hy1))
          clear hy1
          go_wp2_with fail
          clear hc
          go_roundw
          case rel => exact ⟨k + 1, by omega, by first | rfl | go_num, by rw [HSK.out]; exact HS2.out, HK2.out⟩
          case measure => simp [intOf]; omega
        · have fy : (y != -1) = true := by rw [bne_iff_ne]; exact hy1
          have HSK := Lib.hid (show P.frcK c m (k + 1) = (P.frcK c m k).set k y from by rw [P.frcK_set (by rw [HY.out]; exact hy1) (by rw [HCL.out]; exact hlt), HY.out])
          have HS3 := Lib.hid (HS2.out.set k y)
          have HK3 := Lib.hid (HK2.out.trans (SlK.set (.inr rfl) k (.int .i64 y)))
          obtain ⟨cc_, cf_⟩ := HS2.out.cellc hlt
          have hbb := HS2.out.box
          have sc0 : wr.cell? ⟨qs, 0, none⟩ = some (.slice (some ⟨ba, oa, none⟩) n ka) := hbb.cell 0 _ rfl
          have sc1 : wr.cell? ⟨qs, 1, none⟩ = some (.slice (some ⟨bb, ob, none⟩) n kb) := hbb.cell 1 _ rfl
          have sc2 : wr.cell? ⟨qs, 2, none⟩ = some (.slice (some ⟨bc_, oc, none⟩) n kc) := hbb.cell 2 _ rfl
          have sc3 : wr.cell? ⟨qs, 3, none⟩ = some (.slice (some ⟨pc, 0, none⟩) n kq) := hbb.cell 3 _ rfl
          have sc4 : wr.cell? ⟨qs, 4, none⟩ = some (.int .i64 d) := hbb.cell 4 _ rfl
          clear hbb
          clear hy1
          go_wp2_with fail
          clear hc cc_ cf_ sc0 sc1 sc2 sc3 sc4
          go_roundw
          case rel => exact ⟨k + 1, by omega, by first | rfl | go_num, by rw [HSK.out]; exact HS3.out, HK3.out⟩
          case measure => simp [intOf]; omega
      · have fk : decide ((k : Int) < (n : Int)) = false := decide_eq_false (by omega)
        have HFR := Lib.hid (show P.frcK c m k = P.frc c m from by rw [show k = c.length by rw [HCL.out]; omega]; exact P.frcK_all)
        have BQr := Lib.hid (HK2.out.box BQr.out HNR.out.1 HNR.out.2)
        have BQn := Lib.hid (HK2.out.box BQn.out HNN.out.1 HNN.out.2)
        have HKW := Lib.hid (HK4.out.trans HK2.out)
        have hbb := BQr.out
        have rc0 : wr.cell? ⟨qr, 0, none⟩ = some (.int .u64 0) := hbb.cell 0 _ rfl
        have rc1 : wr.cell? ⟨qr, 1, none⟩ = some (.int .u64 0) := hbb.cell 1 _ rfl
        have rc2 : wr.cell? ⟨qr, 2, none⟩ = some (.int .u64 0) := hbb.cell 2 _ rfl
        have rc3 : wr.cell? ⟨qr, 3, none⟩ = some (.int .u64 0) := hbb.cell 3 _ rfl
        have rf0 : wr.frozen? ⟨qr, 0, none⟩ = false := hbb.frozen 0
        have rf1 : wr.frozen? ⟨qr, 1, none⟩ = false := hbb.frozen 1
        have rf2 : wr.frozen? ⟨qr, 2, none⟩ = false := hbb.frozen 2
        have rf3 : wr.frozen? ⟨qr, 3, none⟩ = false := hbb.frozen 3
        clear hbb
        have hbb := BQn.out
        have nc0 : wr.cell? ⟨qn, 0, none⟩ = some (.int .u64 (P.wrd (P.attOf g I p To) 0)) := hbb.cell 0 _ rfl
        have nc1 : wr.cell? ⟨qn, 1, none⟩ = some (.int .u64 (P.wrd (P.attOf g I p To) 1)) := hbb.cell 1 _ rfl
        have nc2 : wr.cell? ⟨qn, 2, none⟩ = some (.int .u64 (P.wrd (P.attOf g I p To) 2)) := hbb.cell 2 _ rfl
        have nc3 : wr.cell? ⟨qn, 3, none⟩ = some (.int .u64 (P.wrd (P.attOf g I p To) 3)) := hbb.cell 3 _ rfl
        clear hbb
        have BZ : Box ((((wr.setCell ⟨qr, 0, none⟩ (.int .u64 (P.wrd (P.attOf g I p To) 0))).setCell ⟨qr, 1, none⟩ (.int .u64 (P.wrd (P.attOf g I p To) 1))).setCell ⟨qr, 2, none⟩ (.int .u64 (P.wrd (P.attOf g I p To) 2))).setCell ⟨qr, 3, none⟩ (.int .u64 (P.wrd (P.attOf g I p To) 3))) qr 45 #[.int .u64 (P.wrd (P.attOf g I p To) 0), .int .u64 (P.wrd (P.attOf g I p To) 1), .int .u64 (P.wrd (P.attOf g I p To) 2), .int .u64 (P.wrd (P.attOf g I p To) 3)] := ((((BQr.out.set 0 (.int .u64 (P.wrd (P.attOf g I p To) 0))).set 1 (.int .u64 (P.wrd (P.attOf g I p To) 1))).set 2 (.int .u64 (P.wrd (P.attOf g I p To) 2))).set 3 (.int .u64 (P.wrd (P.attOf g I p To) 3)))
        have zc0 : ((((wr.setCell ⟨qr, 0, none⟩ (.int .u64 (P.wrd (P.attOf g I p To) 0))).setCell ⟨qr, 1, none⟩ (.int .u64 (P.wrd (P.attOf g I p To) 1))).setCell ⟨qr, 2, none⟩ (.int .u64 (P.wrd (P.attOf g I p To) 2))).setCell ⟨qr, 3, none⟩ (.int .u64 (P.wrd (P.attOf g I p To) 3))).cell? ⟨qr, 0, none⟩ = some (.int .u64 (P.wrd (P.attOf g I p To) 0)) := BZ.cell 0 _ rfl
        have zc1 : ((((wr.setCell ⟨qr, 0, none⟩ (.int .u64 (P.wrd (P.attOf g I p To) 0))).setCell ⟨qr, 1, none⟩ (.int .u64 (P.wrd (P.attOf g I p To) 1))).setCell ⟨qr, 2, none⟩ (.int .u64 (P.wrd (P.attOf g I p To) 2))).setCell ⟨qr, 3, none⟩ (.int .u64 (P.wrd (P.attOf g I p To) 3))).cell? ⟨qr, 1, none⟩ = some (.int .u64 (P.wrd (P.attOf g I p To) 1)) := BZ.cell 1 _ rfl
        have zc2 : ((((wr.setCell ⟨qr, 0, none⟩ (.int .u64 (P.wrd (P.attOf g I p To) 0))).setCell ⟨qr, 1, none⟩ (.int .u64 (P.wrd (P.attOf g I p To) 1))).setCell ⟨qr, 2, none⟩ (.int .u64 (P.wrd (P.attOf g I p To) 2))).setCell ⟨qr, 3, none⟩ (.int .u64 (P.wrd (P.attOf g I p To) 3))).cell? ⟨qr, 2, none⟩ = some (.int .u64 (P.wrd (P.attOf g I p To) 2)) := BZ.cell 2 _ rfl
        have zc3 : ((((wr.setCell ⟨qr, 0, none⟩ (.int .u64 (P.wrd (P.attOf g I p To) 0))).setCell ⟨qr, 1, none⟩ (.int .u64 (P.wrd (P.attOf g I p To) 1))).setCell ⟨qr, 2, none⟩ (.int .u64 (P.wrd (P.attOf g I p To) 2))).setCell ⟨qr, 3, none⟩ (.int .u64 (P.wrd (P.attOf g I p To) 3))).cell? ⟨qr, 3, none⟩ = some (.int .u64 (P.wrd (P.attOf g I p To) 3)) := BZ.cell 3 _ rfl
        have HCE := Lib.hid (And.intro zc0 (And.intro zc1 (And.intro zc2 zc3)))
        have HS5 := Lib.hid ((((HS2.out.far HNR.out.1.symm HNR.out.2.symm HRL.out 0 (.int .u64 (P.wrd (P.attOf g I p To) 0))).far HNR.out.1.symm HNR.out.2.symm HRL.out 1 (.int .u64 (P.wrd (P.attOf g I p To) 1))).far HNR.out.1.symm HNR.out.2.symm HRL.out 2 (.int .u64 (P.wrd (P.attOf g I p To) 2))).far HNR.out.1.symm HNR.out.2.symm HRL.out 3 (.int .u64 (P.wrd (P.attOf g I p To) 3)))
        have HK5 := Lib.hid ((((HKW.out.fresh HRW.out 0 (.int .u64 (P.wrd (P.attOf g I p To) 0))).fresh HRW.out 1 (.int .u64 (P.wrd (P.attOf g I p To) 1))).fresh HRW.out 2 (.int .u64 (P.wrd (P.attOf g I p To) 2))).fresh HRW.out 3 (.int .u64 (P.wrd (P.attOf g I p To) 3)))
        clear BZ zc0 zc1 zc2 zc3
        go_wp2_with fail
        obtain ⟨zc0, zc1, zc2, zc3⟩ := HCE.out
        refine bodyPost_ret (v := .agg #[.int .u64 (P.wrd (P.attOf g I p To) 0), .int .u64 (P.wrd (P.attOf g I p To) 1), .int .u64 (P.wrd (P.attOf g I p To) 2), .int .u64 (P.wrd (P.attOf g I p To) 3)]) (by simp [results, Tryd.results47, go_sem, zc0, zc1, zc2, zc3]) rfl ⟨rfl, m, HPL.out, by rw [← HFR.out]; exact HS5.out, HK5.out⟩
end W
end Go.Proofs.YtpjmboonaciplaaDoor
