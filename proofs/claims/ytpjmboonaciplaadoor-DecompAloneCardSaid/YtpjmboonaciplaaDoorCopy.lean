/- The program's copy of a game: every list is the call's own, and no two share memory. -/
import Derived.Test.YtpjmboonaciplaaDoorClone
import Derived.Test.YtpjmboonaciplaaDoorHep
import Derived.Laws.MakeOwn
import Derived.Laws.Rows
namespace Go.Proofs.YtpjmboonaciplaaDoor
open Go.RowKit
namespace W

theorem apart_two {w w' : World} {lo : Nat} {u v : Value} {xs ys : List Int} (hu : OwnI w lo u xs) (hv : OwnI w' w.heap.size v ys) : Apart [u, v] := by
  have h1 : Apart [u] := fun i j a b hi hj hne => by
    match i, j, hi, hj with
    | 0, 0, _, _ => exact absurd rfl hne
  refine h1.snoc v fun i a hi q hq e => ?_
  match i, hi with
  | 0, hi =>
    simp at hi
    subst hi
    have := own_lt hu q (hold_own e)
    have := own_lt hv q (hold_own hq)
    omega
theorem fin3 {w' : World} {g : P.G} {L : List Value} {a b : Value} {h0 h1 n : Nat} {u0 u1 u2 : Value} (ha : OwnI w' h1 a g.owner) (hb : OwnI w' h1 b g.prio) (hc : w'.ownsRow (h0 + 1 + 1) 22 1 (.slice (some ⟨h0 + 1 + 1, 0, none⟩) n n) n L) (hr : OwnRows w' (h0 + 1 + 1 + 1) L g.moves)
    (hab : Apart [a, b]) (hlow : ∀ (j : Nat) (u : Value) (q : Nat), L[j]? = some u → u.ownBlock = some q → q < h1) (hs : h0 + 1 + 1 + 1 ≤ h1) (hn : g.moves.length = n) (HAP : Apart L) :
    OwnG (((w'.setCell ⟨h0 + 1, 0, none⟩ u0).setCell ⟨h0 + 1, 1, none⟩ u1).setCell ⟨h0 + 1, 2, none⟩ u2) h0 a b (.slice (some ⟨h0 + 1 + 1, 0, none⟩) n n) L g := by
  have far : ∀ {lo : Nat} {e : TypeId} {v : Value} {m : Nat} {xs : List Value}, h0 + 1 < lo → w'.ownsRow lo e 1 v m xs → (((w'.setCell ⟨h0 + 1, 0, none⟩ u0).setCell ⟨h0 + 1, 1, none⟩ u1).setCell ⟨h0 + 1, 2, none⟩ u2).ownsRow lo e 1 v m xs := fun hlo h =>
    ownsRow_setCell_below (ownsRow_setCell_below (ownsRow_setCell_below h (by show h0 + 1 < _; exact hlo) _) (by show h0 + 1 < _; exact hlo) _) (by show h0 + 1 < _; exact hlo) _
  refine ⟨own_more (far (by omega) ha) (by omega), own_more (far (by omega) hb) (by omega), ?_, fun j l hl => ?_, ?_⟩
  · rw [hn]; exact own_more (far (by omega) hc) (by omega)
  · obtain ⟨x, hx, ho⟩ := hr j l hl
    exact ⟨x, hx, own_more (far (by omega) ho) (by omega)⟩
  · have key : ∀ (v : Value) (zs : List Int), OwnI w' h1 v zs → ∀ (j : Nat) (u : Value) (q : Nat), L[j]? = some u → hold u = some q → hold v ≠ some q := fun v zs ho j u q hu hq e => by
      have := own_lt ho q (hold_own e)
      have := hlow j u q hu (hold_own hq)
      omega
    have hap := fun (hL : Apart L) => (hL.cons b (fun i u hu q hq e => key b _ hb i u q hu e hq)).cons a (fun i u hu q hq e => by
      match i, hu with
      | 0, hu =>
        simp at hu
        subst hu
        rcases hab 0 1 a b rfl rfl (by decide) with h | h
        · rw [h] at hq; cases hq
        · exact h (hq.trans e.symm)
      | i + 1, hu => exact key a _ ha i u q (by simpa using hu) e hq)
    exact hap HAP
/-- Rows that are done, and those that are not. -/
structure Part (w : World) (lo : Nat) (L : List Value) (ls : List (List Int)) (k : Nat) : Prop where
  done : ∀ (j : Nat) (l : List Int), j < k → ls[j]? = some l → ∃ x, L[j]? = some x ∧ OwnI w lo x l
  open_ : ∀ (j : Nat) (u : Value), k ≤ j → L[j]? = some u → u = .slice none 0 0
  low : ∀ (j : Nat) (u : Value) (g : Nat), L[j]? = some u → u.ownBlock = some g → g < w.heap.size
  apart : Apart L
theorem Part.start (w : World) (lo n : Nat) (ls : List (List Int)) : Part w lo (List.replicate n (.slice none 0 0)) ls 0 := by
  refine ⟨fun j l h => by omega, fun j u _ h => ?_, fun j u g h hb => ?_, Apart.nils n⟩
  · rw [List.getElem?_replicate] at h
    split at h
    · injection h with h; exact h.symm
    · cases h
  · rw [List.getElem?_replicate] at h
    split at h
    · injection h with h; subst h; cases hb
    · cases h
/-- One more row: made in w, kept in w'. -/
theorem Part.step {w w1 w' : World} {lo : Nat} {L : List Value} {ls : List (List Int)} {k g : Nat} {x : Value} {l : List Int} (h : Part w lo L ls k) (hk : k < L.length) (hl : ls[k]? = some l) (hlo : lo ≤ w.heap.size) (hx : OwnI w1 w.heap.size x l) (h1 : w.grownBy w1 none) (h2 : w1.grownBy w' (some g)) (hg : g < lo) : Part w' lo (L.set k x) ls (k + 1) := by
  have hne : ∀ (v : Value) (zs : List Int) (b : Nat), lo ≤ b → OwnI w1 b v zs → OwnI w' b v zs := fun v zs b hb ho => World.ownsRow.kept ho h2 (by
    cases hv : v.ownBlock with
    | none => exact .inl rfl
    | some q => exact .inr fun e => by have := own_lt ho q hv; injection e with e; omega)
  refine ⟨fun j l' hj hl' => ?_, fun j u hj hu => ?_, fun j u q hu hq => ?_, ?_⟩
  · by_cases hjk : j = k
    · subst hjk
      rw [hl] at hl'
      injection hl' with hl'
      subst hl'
      exact ⟨x, by rw [List.getElem?_set, if_pos rfl, if_pos hk], own_more (hne x l _ hlo hx) hlo⟩
    · obtain ⟨y, hy, ho⟩ := h.done j l' (by omega) hl'
      exact ⟨y, by rw [List.getElem?_set, if_neg (Ne.symm hjk)]; exact hy, hne y l' lo (Nat.le_refl _) (own_grown ho h1)⟩
  · rw [List.getElem?_set, if_neg (by omega)] at hu
    exact h.open_ j u (by omega) hu
  · have hs := h1.size
    have hs2 := h2.size
    rw [List.getElem?_set] at hu
    by_cases hjk : k = j
    · rw [if_pos hjk, if_pos (by omega)] at hu
      injection hu with hu
      subst hu
      have := own_lt hx q hq
      omega
    · rw [if_neg hjk] at hu
      have := h.low j u q hu hq
      omega
  · refine h.apart.set k x fun i u hi q hq e => ?_
    have h3 := h.low i u q hi (hold_own e)
    have h4 := own_lt hx q (hold_own hq)
    omega
theorem Part.all {w : World} {lo : Nat} {L : List Value} {ls : List (List Int)} {k : Nat} (h : Part w lo L ls k) (hk : ls.length ≤ k) : OwnRows w lo L ls := fun j l hl => h.done j l (by have := (List.getElem?_eq_some_iff.1 hl).1; omega) hl
structure Rel (w W : World) (n : Nat) (ls : List (List Int)) (i : Value) (wr : World) (k : Nat) (L : List Value) : Prop where
  le : k ≤ n
  eq : i = .int .i64 k
  grown : W.grownBy wr (some (w.heap.size + 1 + 1))
  head : wr.ownsRow (w.heap.size + 1 + 1) 22 1 (.slice (some ⟨w.heap.size + 1 + 1, 0, none⟩) n n) n L
  part : Part wr (w.heap.size + 1 + 1 + 1) L ls k
def Copied (w : World) (g : P.G) (e : Ending) (w' : World) : Prop := ∃ a b c L, e = .returned (.agg #[a, b, c]) ∧ OwnG w' w.heap.size a b c L g ∧ Below w.heap.size w w'
theorem Copied.mk {w w' : World} {g : P.G} {a b c : Value} {L : List Value} (h : OwnG w' w.heap.size a b c L g) (hb : Below w.heap.size w w') : Copied w g (.returned (.agg #[a, b, c])) w' := ⟨a, b, c, L, rfl, h, hb⟩
set_option maxRecDepth 100000 in
set_option maxHeartbeats 1000000 in
theorem copy_any (g : P.G) (v : Value) (w : World) (hv : GameV w v g) : Calls Tryd.prog 23 #[v] w (Copied w g) := by
  have HV := Lib.hid hv
  obtain ⟨a, b, c, rfl, ha, hb, ⟨co, cc, rfl, hzc, hc⟩⟩ := hv
  have HA := Lib.hid ha
  have HB := Lib.hid hb
  have HC := Lib.hid hc
  clear ha hb hc
  obtain ⟨n, hn⟩ : ∃ n, g.moves.length = n := ⟨_, rfl⟩
  rw [hn] at hzc HV
  rw [hn]
  have HN := Lib.hid hn
  clear hn
  go_enter Tryd.func23, Tryd.ntmps23
  go_wp2_with (refine wpl_make elInts rfl (.tmp 8) (.tmp 8) rfl n rfl rfl ?_ ?_ ?_)
  · omega
  · omega
  intro W hown hg hsz
  have B0 : Box W w.heap.size 25 #[a, b, .slice co n cc] := ((Box.new w _ _).alloc _).keep hg
  have B1 : Box W (w.heap.size + 1) 25 #[.slice none 0 0, .slice none 0 0, .slice none 0 0] := by
    have := (Box.new (w.alloc (.cells #[a, b, .slice co n cc] 25)) 25 #[.slice none 0 0, .slice none 0 0, .slice none 0 0]).keep hg
    simpa using this
  have HG : Hid (Below w.heap.size w W) := Lib.hid ((((Below.refl _ w).alloc (Nat.le_refl _) _).alloc (by simp) _).trans (below_mono_grown hg (by simp; omega) (by intro k hk; cases hk)))
  have HO := Lib.hid hown
  have HS := Lib.hid hsz
  have HB0 := Lib.hid B0
  have HB1 := Lib.hid B1
  clear hown hg
  have pc0 : W.cell? ⟨w.heap.size, 0, none⟩ = some a := B0.cell 0 _ rfl
  have pc1 : W.cell? ⟨w.heap.size, 1, none⟩ = some b := B0.cell 1 _ rfl
  have pc2 : W.cell? ⟨w.heap.size, 2, none⟩ = some (.slice co n cc) := B0.cell 2 _ rfl
  have pf0 : W.frozen? ⟨w.heap.size, 0, none⟩ = false := B0.frozen 0
  have pf1 : W.frozen? ⟨w.heap.size, 1, none⟩ = false := B0.frozen 1
  have pf2 : W.frozen? ⟨w.heap.size, 2, none⟩ = false := B0.frozen 2
  clear B0 B1 hsz
  go_wp2_with fail
  go_loopw [13] (fun i wr => ∃ k L, Rel w W n g.moves i wr k L) (fun i _ => n - (intOf i).toNat)
  case atStart => exact ⟨0, _, Nat.zero_le _, rfl, Rg.grown_refl _ _, HO.out, Part.start _ _ _ _⟩
  case round =>
    obtain ⟨k, L, hR⟩ := hrel
    have hk := hR.le
    obtain rfl := hR.eq
    have hj0 : (0 : Int) ≤ (k : Int) := Int.natCast_nonneg _
    have HR := Lib.hid hR
    clear hR
    have hwW : Below w.heap.size W wr := below_mono_grown HR.out.grown (by have := HS.out; omega) (by intro q hq; injection hq with hq; omega)
    have HALL := Lib.hid (HG.out.trans hwW)
    clear hwW
    have hsr : w.heap.size + 1 + 1 + 1 ≤ wr.heap.size := by have := HR.out.grown.size; have := HS.out; omega
    have HSR := Lib.hid hsr
    clear hsr
    by_cases hlt : k < n
    · have fj : decide ((k : Int) < (n : Int)) = true := decide_eq_true (by omega)
      have hkl : k < g.moves.length := by rw [HN.out]; exact hlt
      obtain ⟨bc, oc, rfl, lc, kc⟩ := HC.out.resolve_left (fun e => by rw [e] at hkl; exact absurd hkl (Nat.not_lt_zero k))
      obtain ⟨x, cx, hx⟩ := kc k hkl
      have hl : g.moves[k]? = some (g.moves.getD k []) := by rw [List.getD_eq_getElem?_getD, List.getElem?_eq_getElem hkl]; rfl
      generalize g.moves.getD k [] = l at hx hl
      have HL := Lib.hid hl
      have c0 : wr.cell? ⟨bc, oc + k, none⟩ = some x := (HALL.out.cell (p := ⟨bc, oc + k, none⟩) lc).trans cx
      have HX := Lib.hid (hx.on HALL.out)
      clear hkl cx hx hl kc
      go_wp2_with fail
      refine (clone_any x l _ HX.out).mono ?_
      rintro e w1 ⟨v1, rfl, ho1, hb1⟩
      obtain ⟨ao1, cp1, rfl, -⟩ := own_at ho1
      have hd1 := own_grown HR.out.head (grown_of_below hb1 none)
      have hLl := hd1.1
      rw [Nat.mul_one] at hLl
      obtain ⟨y, c1⟩ : ∃ y, w1.cell? ⟨w.heap.size + 1 + 1, k, none⟩ = some y := ⟨_, (hd1.cellAt k (by omega)).trans (List.getElem?_eq_getElem (by omega))⟩
      have c2 : w1.frozen? ⟨w.heap.size + 1 + 1, k, none⟩ = false := hd1.frozenAt k
      have hst := (hd1.stored k (.slice ao1 l.length cp1)).1
      have HREL := Lib.hid (show Rel w W n g.moves (.int .i64 ((k + 1 : Nat) : Int)) (w1.setCell ⟨w.heap.size + 1 + 1, k, none⟩ (.slice ao1 l.length cp1)) (k + 1) (L.set k (.slice ao1 l.length cp1)) from
        ⟨by omega, rfl, (HR.out.grown.trans (grown_of_below hb1 _)).trans (grown_set _ _ _), hst,
          HR.out.part.step (by omega) HL.out HSR.out ho1 (grown_of_below hb1 none) (grown_set _ _ _) (by show w.heap.size + 1 + 1 < _; omega)⟩)
      clear hd1 hst ho1 hb1 hLl c0
      go_wp2_with fail
      go_roundw
      case rel => exact ⟨k + 1, _, HREL.out⟩
      case measure => simp [intOf]; omega
    · have fj : decide ((k : Int) < (n : Int)) = false := decide_eq_false (by omega)
      go_wp2_with fail
      have b0 : Box wr w.heap.size 25 #[a, b, .slice co n cc] := HB0.out.grown HR.out.grown (by intro e; injection e with e; omega)
      have b1 : Box wr (w.heap.size + 1) 25 #[.slice none 0 0, .slice none 0 0, .slice none 0 0] := HB1.out.grown HR.out.grown (by intro e; injection e with e; omega)
      refine Rg.wp_region_lit (fun k => match k with | 0 => (fun v _ _ => v = (.pointer (some ⟨w.heap.size, 0, none⟩))) | 1 => (fun v _ _ => v = a) | 2 => (fun v _ w' => OwnI w' wr.heap.size v g.owner) | 3 => (fun v _ _ => v = (.pointer (some ⟨w.heap.size, 1, none⟩))) | 4 => (fun v _ _ => v = b) | 5 => (fun v ds w' => OwnI w' wr.heap.size v g.prio ∧ Apart [ds.getD 1 undef, v]) | 6 => (fun v _ _ => v = (.slice (some ⟨w.heap.size + 1 + 1, 0, none⟩) n n)) | 7 => (fun v ds _ => v = .agg #[ds.getD 0 undef, ds.getD 1 undef, .slice (some ⟨w.heap.size + 1 + 1, 0, none⟩) n n]) | _ => fun _ _ _ => True) (none) 99 (by kernel_rfl) (by rfl) (by kernel_rfl) (by rfl) ?_ ?_ ?_
      · refine ⟨?_, ?_, ?_, ?_, ?_, ?_, ?_, ?_, trivial⟩
        · intro A w' K vals h hn hg hK
          have r0 : A.tmps[1]?.getD undef = (.pointer (some ⟨w.heap.size, 0, none⟩)) := Rg.slot (h.1)
          clear h hn hg
          simp [Oper.wp, execOp, go_sem, r0]
          exact hK _ _ (Rg.grown_refl _ _) rfl
        · intro A w' K vals h hn hg hK
          have r0 : A.tmps[24]?.getD undef = vals 0 := Rg.slot h.1
          have r1 : vals 0 = (.pointer (some ⟨w.heap.size, 0, none⟩)) := hn.1
          have c : w'.cell? ⟨w.heap.size, 0, none⟩ = some a := (b0.keep hg).cell _ _ rfl
          clear h hn
          simp [Oper.wp, execOp, go_sem, r0, r1, c]
          exact hK _ _ (Rg.grown_refl _ _) rfl
        · intro A w' K vals h hn hg hK
          have r0 : A.tmps[25]?.getD undef = vals 1 := Rg.slot h.2.1
          have r1 : vals 1 = a := hn.1
          clear h hn
          simp [Oper.wp, go_sem, r0, r1]
          refine (clone_any a _ _ ((HA.out.on HALL.out).grown hg)).mono ?_
          rintro e w'' ⟨u, rfl, ho, hb⟩
          exact hK _ _ (grown_of_below hb _) (own_more ho hg.size)
        · intro A w' K vals h hn hg hK
          have r0 : A.tmps[1]?.getD undef = (.pointer (some ⟨w.heap.size, 0, none⟩)) := Rg.slot (h.1)
          clear h hn hg
          simp [Oper.wp, execOp, go_sem, r0]
          exact hK _ _ (Rg.grown_refl _ _) rfl
        · intro A w' K vals h hn hg hK
          have r0 : A.tmps[27]?.getD undef = vals 3 := Rg.slot h.1
          have r1 : vals 3 = (.pointer (some ⟨w.heap.size, 1, none⟩)) := hn.1
          have c : w'.cell? ⟨w.heap.size, 1, none⟩ = some b := (b0.keep hg).cell _ _ rfl
          clear h hn
          simp [Oper.wp, execOp, go_sem, r0, r1, c]
          exact hK _ _ (Rg.grown_refl _ _) rfl
        · intro A w' K vals h hn hg hK
          have r0 : A.tmps[28]?.getD undef = vals 4 := Rg.slot h.2.1
          have r1 : vals 4 = b := hn.1
          have n2 : OwnI w' wr.heap.size (vals 2) g.owner := hn.2.1
          clear h hn
          simp [Oper.wp, go_sem, r0, r1]
          refine (clone_any b _ _ ((HB.out.on HALL.out).grown hg)).mono ?_
          rintro e w'' ⟨u, rfl, ho, hb⟩
          exact hK _ _ (grown_of_below hb _) ⟨own_more ho hg.size, apart_two n2 ho⟩
        · intro A w' K vals h hn hg hK
          have r0 : A.tmps[3]?.getD undef = (.slice (some ⟨w.heap.size + 1 + 1, 0, none⟩) n n) := Rg.slot (h.1)
          clear h hn hg
          simp [Oper.wp, execOp, go_sem, r0]
          exact hK _ _ (Rg.grown_refl _ _) rfl
        · intro A w' K vals h hn hg hK
          have r0 : A.tmps[26]?.getD undef = vals 2 := Rg.slot h.1
          have r1 : A.tmps[29]?.getD undef = vals 5 := Rg.slot h.2.1
          have r2 : A.tmps[30]?.getD undef = vals 6 := Rg.slot h.2.2.1
          have r3 : vals 6 = .slice (some ⟨w.heap.size + 1 + 1, 0, none⟩) n n := hn.2.2.1
          have n2 : OwnI w' wr.heap.size (vals 2) g.owner := hn.1
          have n5 : OwnI w' wr.heap.size (vals 5) g.prio := hn.2.1.1
          obtain ⟨a2, c2, e2, -⟩ := own_at n2
          obtain ⟨a5, c5, e5, -⟩ := own_at n5
          clear h hn n2 n5
          simp [Oper.wp, execOp, go_sem, r0, r1, r2, r3, e2, e5]
          refine hK _ _ (Rg.grown_refl _ _) ?_
          show _ = Value.agg #[vals 2, vals 5, _]
          rw [e2, e5]
      · refine ⟨?_, ?_, ?_, ?_, ?_, ?_, ?_, ?_, trivial⟩
        · exact fun _ _ _ _ _ _ h => h
        · exact fun _ _ _ _ _ _ h => h
        · exact fun _ _ _ _ _ h ho => own_grown ho h
        · exact fun _ _ _ _ _ _ h => h
        · exact fun _ _ _ _ _ _ h => h
        · exact fun _ _ _ _ _ h ho => ⟨own_grown ho.1 h, ho.2⟩
        · exact fun _ _ _ _ _ _ h => h
        · exact fun _ _ _ _ _ _ h => h
      · intro vals w' G hg hS hG
        have s2 : OwnI w' wr.heap.size (vals 2) g.owner := hS.2.2.1
        have s5 : OwnI w' wr.heap.size (vals 5) g.prio := hS.2.2.2.2.2.1.1
        have s6 : Apart [vals 2, vals 5] := hS.2.2.2.2.2.1.2
        have s7 : vals 7 = .agg #[vals 2, vals 5, .slice (some ⟨w.heap.size + 1 + 1, 0, none⟩) n n] := hS.2.2.2.2.2.2.2.1
        clear hS
        have s1 := b1.keep hg
        have qc0 : w'.cell? ⟨(w.heap.size + 1), 0, none⟩ = some (.slice none 0 0) := s1.cell 0 _ rfl
        have qc1 : w'.cell? ⟨(w.heap.size + 1), 1, none⟩ = some (.slice none 0 0) := s1.cell 1 _ rfl
        have qc2 : w'.cell? ⟨(w.heap.size + 1), 2, none⟩ = some (.slice none 0 0) := s1.cell 2 _ rfl
        have qf0 : w'.frozen? ⟨(w.heap.size + 1), 0, none⟩ = false := s1.frozen 0
        have qf1 : w'.frozen? ⟨(w.heap.size + 1), 1, none⟩ = false := s1.frozen 1
        have qf2 : w'.frozen? ⟨(w.heap.size + 1), 2, none⟩ = false := s1.frozen 2
        obtain ⟨a2, k2, e2, -⟩ := own_at s2
        obtain ⟨a5, k5, e5, -⟩ := own_at s5
        rw [e2, e5] at s7 s6
        rw [e2] at s2
        rw [e5] at s5
        clear s1
        refine hG ?_
        clear hG
        simp [List.dropLast, Rg.putAll, Oper.wp, execOp, go_sem, s7, e2, e5, qc0, qc1, qc2, qf0, qf1, qf2]
        have HFIN := Lib.hid (fin3 (u0 := .slice a2 g.owner.length k2) (u1 := .slice a5 g.prio.length k5) (u2 := .slice (some ⟨w.heap.size + 1 + 1, 0, none⟩) n n) s2 s5 (own_grown HR.out.head hg) ((HR.out.part.all (by rw [HN.out]; omega)).grown hg) s6 HR.out.part.low HSR.out HN.out HR.out.part.apart)
        have HBEL := Lib.hid (((((HALL.out.trans (below_mono_grown hg (by have := HSR.out; omega) (by intro q hq; cases hq))).setCell (p := ⟨w.heap.size + 1, 0, none⟩) (by show w.heap.size ≤ w.heap.size + 1; omega) (.slice a2 g.owner.length k2)).setCell (p := ⟨w.heap.size + 1, 1, none⟩) (by show w.heap.size ≤ w.heap.size + 1; omega) (.slice a5 g.prio.length k5)).setCell (p := ⟨w.heap.size + 1, 2, none⟩) (by show w.heap.size ≤ w.heap.size + 1; omega) (.slice (some ⟨w.heap.size + 1 + 1, 0, none⟩) n n)))
        clear e2 e5 s7 s2 s5 s6 hg
        go_wp2_with fail
        have HP := Lib.hid (Copied.mk HFIN.out HBEL.out)
        refine bodyPost_ret (v := .agg #[.slice a2 g.owner.length k2, .slice a5 g.prio.length k5, .slice (some ⟨w.heap.size + 1 + 1, 0, none⟩) n n]) (by simp [results, Tryd.results23, go_sem, qc0, qc1, qc2]) rfl HP.out
end W
end Go.Proofs.YtpjmboonaciplaaDoor
