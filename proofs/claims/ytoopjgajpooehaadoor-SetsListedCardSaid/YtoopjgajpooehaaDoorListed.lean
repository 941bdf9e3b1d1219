/- A list of all that are in a set, rising; and back: the walk of the law, for every set and list, in whatever memory. -/
import Derived.Test.YtoopjgajpooehaaDoorEqual
import Derived.Test.YtoopjgajpooehaaDoorIncr
namespace Go.Proofs.YtoopjgajpooehaaDoor
open Go.RowKit Go.Sort
namespace W
theorem neq_same (s : BitVec 256) (w : World) : (binOp .neq 26 (.agg #[.int .u64 (P.wrd s 0), .int .u64 (P.wrd s 1), .int .u64 (P.wrd s 2), .int .u64 (P.wrd s 3)]) (.agg #[.int .u64 (P.wrd s 0), .int .u64 (P.wrd s 1), .int .u64 (P.wrd s 2), .int .u64 (P.wrd s 3)])).run Tryd.prog w = .ok (.bool false) w := by
  have h := set_eq s s w
  simp only [binOp, Sem.run_bind] at h ⊢
  cases hr : (Op.equal 26 (.agg #[.int .u64 (P.wrd s 0), .int .u64 (P.wrd s 1), .int .u64 (P.wrd s 2), .int .u64 (P.wrd s 3)]) (.agg #[.int .u64 (P.wrd s 0), .int .u64 (P.wrd s 1), .int .u64 (P.wrd s 2), .int .u64 (P.wrd s 3)])).run Tryd.prog w with
  | ok b w' =>
    rw [hr] at h
    simp at h
    obtain ⟨h1, h2⟩ := h
    subst h1 h2
    simp
  | halt x w' =>
    rw [hr] at h
    simp [Result.andThen] at h
theorem cOfL (W : World) (v : Value) (s : BitVec 256) (h : Ints W v (P.casts (P.lst s))) (d : Nat) (os : Array Obj) : Calls Tryd.prog 14 #[v] (grow (redrawn W d) os) fun e w'' => e = .returned (.agg #[.int .u64 (P.wrd s 0), .int .u64 (P.wrd s 1), .int .u64 (P.wrd s 2), .int .u64 (P.wrd s 3)]) ∧ ∃ p : Regrown, w'' = grow (redrawn W p.d) p.os := by
  have h2 := of_ints (h.on (below_regrown W d os))
  rw [P.ofL_lst] at h2
  exact Calls.regrown_of h2
theorem P_has_of {s : BitVec 256} {x : Nat} (h : x ∈ P.lst s) : P.has s (x : Int) = true := by
  unfold P.has
  have := (P.mem_lst.1 h).2
  simp [this]
theorem P_casts_fst (s : BitVec 256) (h : 0 < (P.lst s).length) : (P.casts (P.lst s)).getD 0 0 = P.least s := by
  rw [P.casts_at _ _ h, P.least_lst]
  cases hl : P.lst s with
  | nil => rw [hl] at h; simp at h
  | cons x l => rfl
theorem P_has_fst (s : BitVec 256) (h : 0 < (P.lst s).length) : P.has s (P.least s) = true := by
  rw [← P_casts_fst s h, P.casts_at _ _ h]
  exact P_has_of (by simp [List.getD, h])
theorem P_has_at (s : BitVec 256) {k : Nat} (h : k < (P.lst s).length) : P.has s ((P.casts (P.lst s)).getD k 0) = true := by
  rw [P.casts_at _ _ h]
  exact P_has_of (by simp [List.getD, h])
theorem P_rises (s : BitVec 256) {k : Nat} (h0 : 0 < k) (h : k < (P.lst s).length) : decide ((P.casts (P.lst s)).getD k 0 ≤ (P.casts (P.lst s)).getD (k - 1) 0) = false := by
  rw [P.casts_at _ _ h, P.casts_at _ _ (by omega)]
  have hp := List.pairwise_iff_getElem.1 (P.lst_rising s) (k - 1) k (by omega) h (by omega)
  apply decide_eq_false
  have e1 : (P.lst s).getD k 0 = (P.lst s)[k] := by simp [List.getD, h]
  have e2 : (P.lst s).getD (k - 1) 0 = (P.lst s)[k - 1] := by simp [List.getD, show k - 1 < (P.lst s).length by omega]
  rw [e1, e2]
  omega
theorem P_least_sign (s : BitVec 256) : decide (0 ≤ P.least s) = decide ((0 : Int) < (((P.casts (P.lst s)).length : Nat) : Int)) := by
  rw [P.least_lst, P.casts_length]
  cases P.lst s with
  | nil => rfl
  | cons x l => unfold P.fst; apply Bool.eq_iff_iff.2; simp

set_option maxRecDepth 100000 in
set_option maxHeartbeats 6000000 in
theorem listed_any (s : BitVec 256) (vl : Value) (zs : List Int) (w : World) (hT : Hid (Tab w)) (hv : Hid (Ints w vl zs)) (a2 : Option Addr) (cap2 : Nat) (he : vl = .slice a2 zs.length cap2) (hm2 : zs.length ≤ maxLen)
    (hc2 : Hid (zs.length = 0 ∨ ∃ b off, a2 = some ⟨b, off, none⟩ ∧ b < w.heap.size ∧ ∀ j, j < zs.length → w.cell? ⟨b, off + j, none⟩ = some (.int .i64 (zs.getD j 0)))) :
    Calls Tryd.prog 8 #[.agg #[.int .u64 (P.wrd s 0), .int .u64 (P.wrd s 1), .int .u64 (P.wrd s 2), .int .u64 (P.wrd s 3)], vl] w fun e w' => e = .returned (.bool true) ∧ Below w.heap.size w w' := by
  subst he
  unfold maxLen at hm2
  go_enter Tryd.func8, Tryd.ntmps8
  go_wp2_with fail
  refine (shown_any _ ?_).mono ?_
  · exact (hT.out.on ((Below.refl _ _).alloc (Nat.le_refl _) _))
  rintro e w1 ⟨rfl, hb⟩
  have hz : w.heap.size + 1 ≤ w1.heap.size := by have := hb.size; simp at this; omega
  have HB := Lib.hid (show Below w.heap.size w w1 from ((Below.refl w.heap.size w).alloc (by simp) (.cells #[.int .u64 (P.wrd s 0), .int .u64 (P.wrd s 1), .int .u64 (P.wrd s 2), .int .u64 (P.wrd s 3)] 25)).trans (hb.mono (by simp)))
  have k0 : ∀ i, w1.cell? ⟨w.heap.size, i, none⟩ = #[.int .u64 (P.wrd s 0), .int .u64 (P.wrd s 1), .int .u64 (P.wrd s 2), .int .u64 (P.wrd s 3)][i]? := fun i => by rw [hb.cell (by show w.heap.size < _; simp <;> omega), World.cell?_alloc_at _ _ _ _ rfl]
  clear hb
  have h00 : w.heap.size < w1.heap.size := by omega
  have k00 : w1.cell? ⟨w.heap.size, 0, none⟩ = some (.int .u64 (P.wrd s 0)) := (k0 0).trans rfl
  have k01 : w1.cell? ⟨w.heap.size, 1, none⟩ = some (.int .u64 (P.wrd s 1)) := (k0 1).trans rfl
  have k02 : w1.cell? ⟨w.heap.size, 2, none⟩ = some (.int .u64 (P.wrd s 2)) := (k0 2).trans rfl
  have k03 : w1.cell? ⟨w.heap.size, 3, none⟩ = some (.int .u64 (P.wrd s 3)) := (k0 3).trans rfl
  clear k0
  go_wp2_with fail
  obtain ⟨W, hW⟩ : ∃ W : World, W = (w1.alloc (.cells #[.int .u64 (P.wrd s 0), .int .u64 (P.wrd s 1), .int .u64 (P.wrd s 2), .int .u64 (P.wrd s 3)] 26)) := ⟨_, rfl⟩
  have H0 := Lib.hid (show Blk W (w1.heap.size) s 26 by rw [hW]; have h := (Blk.new w1 s 26); simpa using h)
  have HW := Lib.hid (show Below w.heap.size w W by rw [hW]; exact (HB.out.alloc (by omega) (.cells #[.int .u64 (P.wrd s 0), .int .u64 (P.wrd s 1), .int .u64 (P.wrd s 2), .int .u64 (P.wrd s 3)] 26)))
  have HT := Lib.hid (hT.out.on HW.out)
  rw [← hW]
  clear hW HB hz h00 k00 k01 k02 k03
  refine (list_any _ _ HT.out).mono ?_
  rintro e w2 ⟨v, rfl, hown, hb2⟩
  have HI := Lib.hid (ints_of_lists hown)
  have H2 := Lib.hid (H0.out.on hb2)
  have HW2 := Lib.hid (HW.out.trans (hb2.mono HW.out.size))
  have HT2 := Lib.hid (HT.out.on hb2)
  clear hown hb2 H0 HW HT
  obtain ⟨a, cap, rfl, hm, hc⟩ := HI.out
  have HC := Lib.hid hc
  clear hc
  unfold maxLen at hm
  have hlen : ((((P.casts (P.lst s)).length : Nat) : Int) != ((P.len s : Nat) : Int)) = false := by rw [P.casts_length, ← P.len_lst]; simp
  have he := fun w => neq_same s w
  have k0 := fun d os => (H2.out.grown d os).c0
  have k1 := fun d os => (H2.out.grown d os).c1
  have k2 := fun d os => (H2.out.grown d os).c2
  have k3 := fun d os => (H2.out.grown d os).c3
  go_wp2_with fail
  refine wp_region_quiet_below (by kernel_rfl) (by kernel_rfl) ?_
  repeat (first | go_big_quiet_step (first | (go_at_call 24; exact cLen _ _ _ _) | (go_at_call 14; exact cOfL _ _ _ HI.out _ _)) | quiet_step (first | (go_at_call 24; exact cLen _ _ _ _) | (go_at_call 14; exact cOfL _ _ _ HI.out _ _)))
  refine wpQuiet_nil ?_
  intro _ hw'
  obtain ⟨⟨dq, osq⟩, hw''⟩ := hw'
  subst hw''
  have hb := below_regrown w2 dq osq
  obtain ⟨WN, hWN⟩ : ∃ X : World, X = grow (redrawn w2 dq) osq := ⟨_, rfl⟩
  rw [← hWN] at hb ⊢
  clear hWN
  have H4 := Lib.hid (H2.out.on hb)
  have HW4 := Lib.hid (HW2.out.trans (hb.mono HW2.out.size))
  have HT4 := Lib.hid (HT2.out.on hb)
  have HI4 := Lib.hid (HI.out.on hb)
  have HB4 := Lib.hid hb
  clear hb H2 HW2 HT2 HI k0 k1 k2 k3 hlen he
  go_wp2_with fail
  go_loopw [8] (fun i wr => ∃ k : Nat, k ≤ (P.casts (P.lst s)).length ∧ i = .int .i64 k ∧ Below WN.heap.size WN wr) (fun i _ => (P.casts (P.lst s)).length - (intOf i).toNat)
  case atStart => exact ⟨0, Nat.zero_le _, rfl, Below.refl _ _⟩
  case round =>
    obtain ⟨k, hk, rfl, hw⟩ := hrel
    have HR := Lib.hid hw
    clear hw
    by_cases hkl : k < (P.casts (P.lst s)).length
    · have hk0 : (0 : Int) ≤ (k : Int) := Int.natCast_nonneg _
      obtain ⟨b, off, ha, hbz, HCC⟩ : ∃ b off, a = some ⟨b, off, none⟩ ∧ b < w2.heap.size ∧ Hid (∀ j, j < (P.casts (P.lst s)).length → w2.cell? ⟨b, off + j, none⟩ = some (.int .i64 ((P.casts (P.lst s)).getD j 0))) := by
        rcases HC.out with h0 | ⟨b, off, h1, h2, h3⟩
        · omega
        · exact ⟨b, off, h1, h2, Lib.hid h3⟩
      subst ha
      have hbr : b < wr.heap.size := by have h1 := HB4.out.size; have h2 := HR.out.size; omega
      have HBW := Lib.hid (HB4.out.trans (HR.out.mono HB4.out.size))
      have HTr := Lib.hid (HT4.out.on HR.out)
      have Hr := Lib.hid (H4.out.on HR.out)
      have HGr := Lib.hid (fun (d : Nat) (os : Array Obj) (j : Nat) (hj : j < (P.casts (P.lst s)).length) => ((HBW.out.trans ((below_regrown wr d os).mono HBW.out.size)).cell (p := ⟨b, off + j, none⟩) hbz).trans (HCC.out j hj))
      have k0 := fun d os => (Hr.out.grown d os).c0
      have k1 := fun d os => (Hr.out.grown d os).c1
      have k2 := fun d os => (Hr.out.grown d os).c2
      have k3 := fun d os => (Hr.out.grown d os).c3
      rcases Nat.eq_zero_or_pos k with hz | hz
      · have g0 := fun d os => HGr.out d os k hkl
        have hx : (P.casts (P.lst s)).getD k 0 = P.least s := by subst hz; exact P_casts_fst s (by rw [← P.casts_length]; exact hkl)
        rw [hx] at g0
        have hh : P.has s (P.least s) = true := P_has_fst s (by rw [← P.casts_length]; omega)
        have hn : (P.least s != P.least s) = false := by simp
        have hd1 : decide (0 < k) = false := by subst hz; rfl
        have hd2 : ((k : Int) == 0) = true := by subst hz; rfl
        have hd3 : (k == 0) = true := by subst hz; rfl
        have hd4 : decide (k = 0) = true := by subst hz; rfl
        clear hx hz
        go_wp2_with fail
        refine wp_region_quiet_below (by kernel_rfl) (by kernel_rfl) ?_
        repeat (first | go_big_quiet_step (first | (go_at_call 22; exact cHas _ _ _ _ _) | (go_at_call 26; exact cLeast _ _ HTr.out _ _)) | quiet_step (first | (go_at_call 22; exact cHas _ _ _ _ _) | (go_at_call 26; exact cLeast _ _ HTr.out _ _)))
        refine wpQuiet_nil ?_
        intro _ hw'
        obtain ⟨⟨dq, osq⟩, hw''⟩ := hw'
        subst hw''
        have hb := below_regrown wr dq osq
        obtain ⟨WR, hWN⟩ : ∃ X : World, X = grow (redrawn wr dq) osq := ⟨_, rfl⟩
        rw [← hWN] at hb ⊢
        clear hWN
        go_wp2_with fail
        go_roundw
        case rel => exact ⟨k + 1, by omega, by go_num, HR.out.trans (hb.mono HR.out.size)⟩
        case measure => simp [intOf]; omega
      · have g0 := fun d os => HGr.out d os k hkl
        have g1 := fun d os => HGr.out d os (k - 1) (by omega)
        obtain ⟨x, hx⟩ : ∃ x, (P.casts (P.lst s)).getD k 0 = x := ⟨_, rfl⟩
        obtain ⟨y, hy⟩ : ∃ y, (P.casts (P.lst s)).getD (k - 1) 0 = y := ⟨_, rfl⟩
        have hh : P.has s x = true := by rw [← hx]; exact P_has_at s (by rw [← P.casts_length]; exact hkl)
        have hlt : decide (x ≤ y) = false := by rw [← hx, ← hy]; exact P_rises s hz (by rw [← P.casts_length]; exact hkl)
        rw [hx] at g0
        rw [hy] at g1
        have hd1 : decide (0 < k) = true := decide_eq_true hz
        have hd2 : ((k : Int) == 0) = false := by rw [beq_eq_false_iff_ne]; omega
        have hd3 : (k == 0) = false := by rw [beq_eq_false_iff_ne]; omega
        have hd4 : decide (k = 0) = false := decide_eq_false (by omega)
        have hk1 : ((k : Int) - 1) = ((k - 1 : Nat) : Int) := by omega
        have hk2 : k - 1 < (P.casts (P.lst s)).length := by omega
        have HX := Lib.hid hx
        have HY := Lib.hid hy
        clear hx hy
        go_wp2_with fail
        refine wp_region_quiet_below (by kernel_rfl) (by kernel_rfl) ?_
        repeat (first | go_big_quiet_step (first | (go_at_call 22; exact cHas _ _ _ _ _) | (go_at_call 26; exact cLeast _ _ HTr.out _ _)) | quiet_step (first | (go_at_call 22; exact cHas _ _ _ _ _) | (go_at_call 26; exact cLeast _ _ HTr.out _ _)))
        refine wpQuiet_nil ?_
        intro _ hw'
        obtain ⟨⟨dq, osq⟩, hw''⟩ := hw'
        subst hw''
        have hb := below_regrown wr dq osq
        obtain ⟨WR, hWN⟩ : ∃ X : World, X = grow (redrawn wr dq) osq := ⟨_, rfl⟩
        rw [← hWN] at hb ⊢
        clear hWN
        go_wp2_with fail
        go_roundw
        case rel => exact ⟨k + 1, by omega, by go_num, HR.out.trans (hb.mono HR.out.size)⟩
        case measure => simp [intOf]; omega
    · have HW5 := Lib.hid (HW4.out.trans (HR.out.mono HW4.out.size))
      have HT5 := Lib.hid (HT4.out.on HR.out)
      have H5 := Lib.hid (H4.out.on HR.out)
      have HV5 := Lib.hid (hv.out.on HW5.out)
      have hk5 : decide (k < (P.casts (P.lst s)).length) = false := decide_eq_false (by omega)
      obtain rfl : k = (P.casts (P.lst s)).length := by omega
      clear hkl hk5 HR HW4 HT4 HI4 HB4 H4
      go_wp2_with fail
      obtain ⟨W5, rfl⟩ : ∃ X : World, X = wr := ⟨_, rfl⟩
      go_loopw [9, 10] (fun q i wr => ∃ k : Nat, k ≤ zs.length ∧ q = .bool (P.fineB zs k) ∧ i = .int .i64 k ∧ Below W5.heap.size W5 wr) (fun _ i _ => zs.length - (intOf i).toNat)
      case atStart => exact ⟨0, Nat.zero_le _, rfl, rfl, Below.refl _ _⟩
      case round =>
        obtain ⟨k, hk, rfl, rfl, hw⟩ := hrel
        have HX := Lib.hid hw
        clear hw
        by_cases hkl : k < zs.length
        · have hk0 : (0 : Int) ≤ (k : Int) := Int.natCast_nonneg _
          obtain ⟨b, off, ha, hbz, HCC⟩ : ∃ b off, a2 = some ⟨b, off, none⟩ ∧ b < w.heap.size ∧ Hid (∀ j, j < zs.length → w.cell? ⟨b, off + j, none⟩ = some (.int .i64 (zs.getD j 0))) := by
            rcases hc2.out with h0 | ⟨b, off, h1, h2, h3⟩
            · omega
            · exact ⟨b, off, h1, h2, Lib.hid h3⟩
          subst ha
          have HBW := Lib.hid (HW5.out.trans (HX.out.mono HW5.out.size))
          have HGr := Lib.hid (fun (d : Nat) (os : Array Obj) (j : Nat) (hj : j < zs.length) => ((HBW.out.trans ((below_regrown wr d os).mono HBW.out.size)).cell (p := ⟨b, off + j, none⟩) hbz).trans (HCC.out j hj))
          have g0 := fun d os => HGr.out d os k hkl
          obtain ⟨x, hx⟩ : ∃ x, zs.getD k 0 = x := ⟨_, rfl⟩
          rw [hx] at g0
          have HXX := Lib.hid hx
          clear hx
          cases hf : P.fineB zs k with
          | false =>
                    have HF := Lib.hid hf
                    have HN := Lib.hid (show P.fineB zs (k + 1) = false from by rw [P.fineB, HF.out]; rfl)
                    clear hf
                    go_wp2_with fail
                    refine wp_region_quiet_below (by kernel_rfl) (by kernel_rfl) ?_
                    repeat (first | go_big_quiet_step (fail) | quiet_step (fail))
                    refine wpQuiet_nil ?_
                    intro _ hw'
                    obtain ⟨⟨dq, osq⟩, hw''⟩ := hw'
                    subst hw''
                    have hb := below_regrown wr dq osq
                    obtain ⟨WR, hWN⟩ : ∃ X : World, X = grow (redrawn wr dq) osq := ⟨_, rfl⟩
                    rw [← hWN] at hb ⊢
                    clear hWN
                    go_wp2_with fail
                    go_roundw
                    case rel => exact ⟨k + 1, by omega, by rw [HN.out], by go_num, HX.out.trans (hb.mono HX.out.size)⟩
                    case measure => simp [intOf]; omega
          | true =>
           have HF := Lib.hid hf
           clear hf
           by_cases h1 : 0 ≤ x
           · by_cases h2 : x ≤ 255
             · rcases Nat.eq_zero_or_pos k with h3 | h3
               ·
                    have e1 : decide (0 ≤ x) = true := decide_eq_true (h1)
                    have e2 : decide (x ≤ 255) = true := decide_eq_true (h2)
                    have e3 : ((k : Int) == 0) = true := by subst h3; rfl
                    have e4 : (k == 0) = true := by subst h3; rfl
                    have e5 : decide (k = 0) = true := decide_eq_true (h3)
                    have HN := Lib.hid (show P.fineB zs (k + 1) = true from by rw [P.fineB, HF.out]; unfold P.okAt; rw [HXX.out, e1, e2, e4]; rfl)
                    clear h1 h2 h3
                    go_wp2_with fail
                    refine wp_region_quiet_below (by kernel_rfl) (by kernel_rfl) ?_
                    repeat (first | go_big_quiet_step (fail) | quiet_step (fail))
                    refine wpQuiet_nil ?_
                    intro _ hw'
                    obtain ⟨⟨dq, osq⟩, hw''⟩ := hw'
                    subst hw''
                    have hb := below_regrown wr dq osq
                    obtain ⟨WR, hWN⟩ : ∃ X : World, X = grow (redrawn wr dq) osq := ⟨_, rfl⟩
                    rw [← hWN] at hb ⊢
                    clear hWN
                    go_wp2_with fail
                    go_roundw
                    case rel => exact ⟨k + 1, by omega, by rw [HN.out], by go_num, HX.out.trans (hb.mono HX.out.size)⟩
                    case measure => simp [intOf]; omega
               ·
                    have g1 := fun d os => HGr.out d os (k - 1) (by omega)
                    obtain ⟨y, hy⟩ : ∃ y, zs.getD (k - 1) 0 = y := ⟨_, rfl⟩
                    rw [hy] at g1
                    have e1 : decide (0 ≤ x) = true := decide_eq_true (h1)
                    have e2 : decide (x ≤ 255) = true := decide_eq_true (h2)
                    have e3 : ((k : Int) == 0) = false := by rw [beq_eq_false_iff_ne]; omega
                    have e4 : (k == 0) = false := by rw [beq_eq_false_iff_ne]; omega
                    have e5 : decide (k = 0) = false := decide_eq_false (by omega)
                    have e6 : ((k : Int) - 1) = ((k - 1 : Nat) : Int) := by omega
                    have e7 : k - 1 < zs.length := by omega
                    have HN := Lib.hid (show P.fineB zs (k + 1) = decide (y < x) from by rw [P.fineB, HF.out]; unfold P.okAt; rw [HXX.out, hy, e1, e2, e4]; rfl)
                    clear h1 h2 hy
                    go_wp2_with fail
                    refine wp_region_quiet_below (by kernel_rfl) (by kernel_rfl) ?_
                    repeat (first | go_big_quiet_step (fail) | quiet_step (fail))
                    refine wpQuiet_nil ?_
                    intro _ hw'
                    obtain ⟨⟨dq, osq⟩, hw''⟩ := hw'
                    subst hw''
                    have hb := below_regrown wr dq osq
                    obtain ⟨WR, hWN⟩ : ∃ X : World, X = grow (redrawn wr dq) osq := ⟨_, rfl⟩
                    rw [← hWN] at hb ⊢
                    clear hWN
                    go_wp2_with fail
                    go_roundw
                    case rel => exact ⟨k + 1, by omega, by rw [HN.out], by go_num, HX.out.trans (hb.mono HX.out.size)⟩
                    case measure => simp [intOf]; omega
             ·
                    have e1 : decide (0 ≤ x) = true := decide_eq_true (h1)
                    have e2 : decide (x ≤ 255) = false := decide_eq_false (h2)
                    have HN := Lib.hid (show P.fineB zs (k + 1) = false from by rw [P.fineB, HF.out]; unfold P.okAt; rw [HXX.out, e1, e2]; rfl)
                    clear h1 h2
                    go_wp2_with fail
                    refine wp_region_quiet_below (by kernel_rfl) (by kernel_rfl) ?_
                    repeat (first | go_big_quiet_step (fail) | quiet_step (fail))
                    refine wpQuiet_nil ?_
                    intro _ hw'
                    obtain ⟨⟨dq, osq⟩, hw''⟩ := hw'
                    subst hw''
                    have hb := below_regrown wr dq osq
                    obtain ⟨WR, hWN⟩ : ∃ X : World, X = grow (redrawn wr dq) osq := ⟨_, rfl⟩
                    rw [← hWN] at hb ⊢
                    clear hWN
                    go_wp2_with fail
                    go_roundw
                    case rel => exact ⟨k + 1, by omega, by rw [HN.out], by go_num, HX.out.trans (hb.mono HX.out.size)⟩
                    case measure => simp [intOf]; omega
           ·
                    have e1 : decide (0 ≤ x) = false := decide_eq_false (h1)
                    have HN := Lib.hid (show P.fineB zs (k + 1) = false from by rw [P.fineB, HF.out]; unfold P.okAt; rw [HXX.out, e1]; rfl)
                    clear h1
                    go_wp2_with fail
                    refine wp_region_quiet_below (by kernel_rfl) (by kernel_rfl) ?_
                    repeat (first | go_big_quiet_step (fail) | quiet_step (fail))
                    refine wpQuiet_nil ?_
                    intro _ hw'
                    obtain ⟨⟨dq, osq⟩, hw''⟩ := hw'
                    subst hw''
                    have hb := below_regrown wr dq osq
                    obtain ⟨WR, hWN⟩ : ∃ X : World, X = grow (redrawn wr dq) osq := ⟨_, rfl⟩
                    rw [← hWN] at hb ⊢
                    clear hWN
                    go_wp2_with fail
                    go_roundw
                    case rel => exact ⟨k + 1, by omega, by rw [HN.out], by go_num, HX.out.trans (hb.mono HX.out.size)⟩
                    case measure => simp [intOf]; omega
        · obtain rfl : k = zs.length := by omega
          have HW6 := Lib.hid (HW5.out.trans (HX.out.mono HW5.out.size))
          have HT6 := Lib.hid (HT5.out.on HX.out)
          have H6 := Lib.hid (H5.out.on HX.out)
          have HV6 := Lib.hid (HV5.out.on HX.out)
          clear hkl HX HW5 HT5 H5 HV5
          go_wp2_with fail
          refine (of_ints HV6.out).mono ?_
          rintro e w7 ⟨rfl, hb⟩
          have HW7 := Lib.hid (HW6.out.trans (hb.mono HW6.out.size))
          have HT7 := Lib.hid (HT6.out.on hb)
          have H7 := Lib.hid (H6.out.on hb)
          have HV7 := Lib.hid (HV6.out.on hb)
          clear hb HW6 HT6 H6 HV6
          go_wp2_with fail
          refine (list_any _ _ HT7.out).mono ?_
          rintro e w8 ⟨v, rfl, hown, hb⟩
          have HI8 := Lib.hid (ints_of_lists hown)
          have HW8 := Lib.hid (HW7.out.trans (hb.mono HW7.out.size))
          have HT8 := Lib.hid (HT7.out.on hb)
          have H8 := Lib.hid (H7.out.on hb)
          have HV8 := Lib.hid (HV7.out.on hb)
          clear hown hb HW7 HT7 H7 HV7
          go_wp2_with fail
          refine (equal_any HI8.out HV8.out).mono ?_
          rintro e w9 ⟨rfl, hb⟩
          rw [P.back_iff]
          have HW9 := Lib.hid (HW8.out.trans (hb.mono HW8.out.size))
          have HT9 := Lib.hid (HT8.out.on hb)
          have H9 := Lib.hid (H8.out.on hb)
          clear hb HW8 HT8 H8 HV8 HI8
          have hfin : (P.fineB zs zs.length == P.fineB zs zs.length) = true := by simp
          have hsg := P_least_sign s
          have c0 := H9.out.c0
          have c1 := H9.out.c1
          have c2 := H9.out.c2
          have c3 := H9.out.c3
          go_wp2_with fail
          refine (least_any _ _ HT9.out).mono ?_
          rintro e w10 ⟨rfl, hb⟩
          have HW10 := Lib.hid (HW9.out.trans (hb.mono HW9.out.size))
          have hfin2 : (decide ((0 : Int) < (((P.casts (P.lst s)).length : Nat) : Int)) == decide (0 ≤ P.least s)) = true := by rw [hsg]; simp
          go_wp2_with fail
          go_ret
          refine ⟨?_, HW10.out⟩
          first | rfl | (rw [hfin2]) | (go_goals; simp [hsg]) | go_goals
theorem listed_all (s : BitVec 256) (vl : Value) (zs : List Int) (w : World) (hT : Tab w) (h : Ints w vl zs) :
    Calls Tryd.prog 8 #[.agg #[.int .u64 (P.wrd s 0), .int .u64 (P.wrd s 1), .int .u64 (P.wrd s 2), .int .u64 (P.wrd s 3)], vl] w fun e w' => e = .returned (.bool true) ∧ Below w.heap.size w w' := by
  have hv := Lib.hid h
  obtain ⟨a2, cap2, he, hm, hc⟩ := h
  exact listed_any s vl zs w (Lib.hid hT) hv a2 cap2 he hm (Lib.hid hc)
end W
end Go.Proofs.YtoopjgajpooehaaDoor
