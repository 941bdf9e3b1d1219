/- Even: the document's. -/
import Derived.Test.YteeaojciobmcaaaBest
import Derived.Test.YteeaojciobmcaaaIs
import Derived.Test.YteeaojciobmcaaaEvenP
import Derived.Test.YteeaojciobmcaaaRSolve
import Derived.Test.YteeaojciobmcaaaTupsF
import Derived.Deep.Cut
import Derived.Lib.Hide
import Derived.Deep.QuietTactic
import Derived.BigQuiet
namespace Go.Proofs.Yteeaojciobmcaaa
open Go.RowKit
namespace W

/-- What the document's Even hands back, of a right game and as many tuples. -/
def REvenV (w : World) (g : P.G) (l : List P.Tup) (e : Ending) (w' : World) : Prop := ∃ v1 v2, e = .returned (.tuple #[v1, v2]) ∧ OwnI w' w.heap.size v1 (evR g l) ∧ OwnI w' w.heap.size v2 (evM g l) ∧ Below w.heap.size w w'
set_option maxRecDepth 100000 in
set_option maxHeartbeats 1000000 in
theorem reven_bad (g : P.G) (l : List P.Tup) (v vl : Value) (w : World) (hv : GameV w v g) (hV : TupsV w vl l) (hf : fits g l = false) : Calls Try.prog 28 #[v, vl] w (REvenV w g l) := by
  have HV := Lib.hid hv
  have HE := Lib.hid (show evR g l = [] ∧ evM g l = [] from by unfold evR evM; rw [if_neg (by rw [hf]; simp), if_neg (by rw [hf]; simp)]; exact ⟨rfl, rfl⟩)
  obtain ⟨a, b, c, rfl, ha, -⟩ := hv
  obtain ⟨ao, ka, rfl, hza, -⟩ := ha
  obtain ⟨lo, lk, rfl, hzl, -⟩ := hV
  unfold fits at hf
  obtain ⟨m, hm⟩ : ∃ m, l.length = m := ⟨_, rfl⟩
  obtain ⟨no, hno⟩ : ∃ m, g.owner.length = m := ⟨_, rfl⟩
  rw [hm] at hzl hf ⊢
  rw [hno] at hza HV hf ⊢
  obtain ⟨ok, hok⟩ : ∃ b, g.ok = b := ⟨_, rfl⟩
  rw [hok] at hf
  have HOK := Lib.hid hok
  clear hm hno hok
  go_enter Try.func28, Try.ntmps28
  go_wp2_with fail
  have bx0 : Box (w.alloc (.cells #[.slice ao no ka, b, c] 33)) (w.heap.size) 33 #[.slice ao no ka, b, c] := Box.new w 33 #[.slice ao no ka, b, c]
  have hbq : Below w.heap.size w (w.alloc (.cells #[.slice ao no ka, b, c] 33)) := (Below.refl _ w).alloc (Nat.le_refl _) _
  have hle0 : w.heap.size ≤ w.heap.size := Nat.le_refl _
  generalize (w.alloc (.cells #[.slice ao no ka, b, c] 33)) = w0 at bx0 hbq  ⊢
  have BQg := Lib.hid bx0
  have W := Lib.hid hbq
  have LEg := Lib.hid hle0
  clear hbq hle0 bx0 
  obtain ⟨qg, hqg⟩ : ∃ qg, w.heap.size = qg := ⟨_, rfl⟩
  rw [hqg] at BQg ⊢
  have LEg : Hid (w.heap.size ≤ qg) := Lib.hid (by omega)
  clear hqg
  refine (is_any g _ w0 (HV.out.on W.out)).mono ?_
  rintro e w1 ⟨rfl, hb⟩
  replace BQg := Lib.hid (BQg.out.keep (grown_of_below hb none))
  replace W := Lib.hid (W.out.trans (hb.mono W.out.size))
  clear hb
  rw [HOK.out]
  have hbb := BQg.out
  have gc0 : w1.cell? ⟨qg, 0, none⟩ = some (.slice ao no ka) := hbb.cell 0 _ rfl
  have gc1 : w1.cell? ⟨qg, 1, none⟩ = some b := hbb.cell 1 _ rfl
  have gc2 : w1.cell? ⟨qg, 2, none⟩ = some c := hbb.cell 2 _ rfl
  clear hbb
  cases ok
  · clear hf
    go_wp2_with fail
    refine bodyPost_ret (v := .tuple #[.slice none 0 0, .slice none 0 0]) (by simp [results, Try.results28, go_sem]) rfl ⟨_, _, rfl, by rw [HE.out.1]; exact OwnI.nil _ _, by rw [HE.out.2]; exact OwnI.nil _ _, W.out⟩
  · have hne : m ≠ no := by simpa using hf
    have fn : (((m : Nat) : Int) != ((no : Nat) : Int)) = true := by rw [bne_iff_ne]; omega
    clear hf hne
    go_wp2_with fail
    refine bodyPost_ret (v := .tuple #[.slice none 0 0, .slice none 0 0]) (by simp [results, Try.results28, go_sem]) rfl ⟨_, _, rfl, by rw [HE.out.1]; exact OwnI.nil _ _, by rw [HE.out.2]; exact OwnI.nil _ _, W.out⟩

set_option maxRecDepth 100000 in
set_option maxHeartbeats 8000000 in
theorem reven_good (g : P.G) (hr : g.Right) (l : List P.Tup) (hll : l.length = g.owner.length) (hlow : ∀ j k, k < 4 → -9223372036854775808 ≤ ct (l.getD j .zero) k) (v vl : Value) (w : World) (hv : GameV w v g) (hV : TupsV w vl l) :
    Calls Try.prog 28 #[v, vl] w fun e w' => ∃ v1 v2, e = .returned (.tuple #[v1, v2]) ∧ OwnI w' w.heap.size v1 (evF l l.length) ∧ OwnI w' w.heap.size v2 ((List.range l.length).map (evT g l)) ∧ Below w.heap.size w w' := by
  have hop := hr.prio
  have hmp := hr.moves
  have hmany := hr.many
  have h0 := hr.pos
  have HLL := Lib.hid hll
  obtain ⟨n, hn⟩ : ∃ n, g.owner.length = n := ⟨_, rfl⟩
  rw [hn] at hop hmp hmany h0 hll
  have HV := Lib.hid hv
  have HVL := Lib.hid hV
  obtain ⟨ba, oa, ka, bb, ob, kb, bc_, oc, kc, rfl, hca, hcb, hcc⟩ := hv.open_ hn hop hmp h0
  have HROW := Lib.hid (rows_of hr hn hcc)
  obtain ⟨bl, ol, kl, rfl, -, hcl⟩ := hV.open_ hll h0
  have HCA := Lib.hid hca
  have HCBB := Lib.hid hcb
  have HCLL := Lib.hid hcl
  have HOK := Lib.hid ((P.G.ok_iff g).2 hr)
  have HR := Lib.hid hr
  have HN := Lib.hid hn
  have HLN := Lib.hid hll
  have HLOW := Lib.hid hlow
  clear hca hcb hcc hr hn hop hmp hv hV hcl hll hlow
  go_enter Try.func28, Try.ntmps28
  go_wp2_with fail
  have bx0 : Box (w.alloc (.cells #[.slice (some ⟨ba, oa, none⟩) n ka, .slice (some ⟨bb, ob, none⟩) n kb, .slice (some ⟨bc_, oc, none⟩) n kc] 33)) (w.heap.size) 33 #[.slice (some ⟨ba, oa, none⟩) n ka, .slice (some ⟨bb, ob, none⟩) n kb, .slice (some ⟨bc_, oc, none⟩) n kc] := Box.new w 33 #[.slice (some ⟨ba, oa, none⟩) n ka, .slice (some ⟨bb, ob, none⟩) n kb, .slice (some ⟨bc_, oc, none⟩) n kc]
  have hbq : Below w.heap.size w (w.alloc (.cells #[.slice (some ⟨ba, oa, none⟩) n ka, .slice (some ⟨bb, ob, none⟩) n kb, .slice (some ⟨bc_, oc, none⟩) n kc] 33)) := (Below.refl _ w).alloc (Nat.le_refl _) _
  have hle0 : w.heap.size ≤ w.heap.size := Nat.le_refl _
  generalize (w.alloc (.cells #[.slice (some ⟨ba, oa, none⟩) n ka, .slice (some ⟨bb, ob, none⟩) n kb, .slice (some ⟨bc_, oc, none⟩) n kc] 33)) = w0 at bx0 hbq  ⊢
  have BQg := Lib.hid bx0
  have W := Lib.hid hbq
  have LEg := Lib.hid hle0
  clear hbq hle0 bx0 
  obtain ⟨qg, hqg⟩ : ∃ qg, w.heap.size = qg := ⟨_, rfl⟩
  rw [hqg] at BQg ⊢
  have LEg : Hid (w.heap.size ≤ qg) := Lib.hid (by omega)
  clear hqg
  refine (is_any g _ w0 (HV.out.on W.out)).mono ?_
  rintro e w1 ⟨rfl, hb⟩
  replace BQg := Lib.hid (BQg.out.keep (grown_of_below hb none))
  replace W := Lib.hid (W.out.trans (hb.mono W.out.size))
  clear hb
  rw [HOK.out]
  have fn : (((n : Nat) : Int) != ((n : Nat) : Int)) = false := by rw [bne_eq_false_iff_eq]
  have hbb := BQg.out
  have gc0 : w1.cell? ⟨qg, 0, none⟩ = some (.slice (some ⟨ba, oa, none⟩) n ka) := hbb.cell 0 _ rfl
  have gc1 : w1.cell? ⟨qg, 1, none⟩ = some (.slice (some ⟨bb, ob, none⟩) n kb) := hbb.cell 1 _ rfl
  have gc2 : w1.cell? ⟨qg, 2, none⟩ = some (.slice (some ⟨bc_, oc, none⟩) n kc) := hbb.cell 2 _ rfl
  clear hbb
  go_wp2_with fail
  clear gc0 gc1 gc2
  go_loopw [7, 8, 9] (fun u7 u8 iv wr => ∃ (i : Nat), i ≤ n ∧ iv = .int .i64 (i : Int) ∧ OwnI wr w.heap.size u7 (evF l i) ∧ OwnI wr w.heap.size u8 ((List.range i).map (evT g l)) ∧ (∀ b, u7.ownBlock = some b → u8.ownBlock ≠ some b) ∧ (u7.ownBlock ≠ some qg ∧ u8.ownBlock ≠ some qg) ∧ Box wr qg 33 #[.slice (some ⟨ba, oa, none⟩) n ka, .slice (some ⟨bb, ob, none⟩) n kb, .slice (some ⟨bc_, oc, none⟩) n kc] ∧ Below w.heap.size w wr) (fun _ _ iv _ => n - (intOf iv).toNat)
  case atStart => exact ⟨0, Nat.zero_le _, rfl, OwnI.nil _ _, OwnI.nil _ _, (fun b h => nomatch h), ⟨(fun h => nomatch h), (fun h => nomatch h)⟩, BQg.out, W.out⟩
  case round =>
    obtain ⟨i, hi, rfl, h7, h8, hap, haq, bg, hb⟩ := hrel
    have HO7 := Lib.hid h7
    have HO8 := Lib.hid h8
    have AP := Lib.hid hap
    have AQ := Lib.hid haq
    replace BQg := Lib.hid bg
    replace W := Lib.hid hb
    clear h7 h8 hap haq bg hb
    have ha0 : (0 : Int) ≤ (i : Int) := Int.natCast_nonneg _
    by_cases hlt : i < n
    · have fi : decide ((i : Int) < (n : Int)) = true := decide_eq_true (by omega)
      have hai : (i : Int) < (n : Int) := by omega
      obtain ⟨tp, htp⟩ : ∃ b, (l.getD i .zero).top = b := ⟨_, rfl⟩
      have ctp := HCLL.out wr W.out i hlt 0 (.bool (l.getD i .zero).top) rfl
      rw [htp] at ctp
      have ctp : wr.cell? ⟨bl, ol + i * 5, none⟩ = some (.bool tp) := ctp
      have HT := Lib.hid htp
      clear htp
      cases tp
      · go_upto_region 11 with (fail)
        clear ctp
        go_wp2_with (at_builtin; refine wpl_append elInt rfl (.tmp 38) (.tmp 40) rfl rfl (own_grown HO7.out (World.grownBy_alloc _ _ none)) rfl (row_one _ _ _) ?_ ?_ ?_ ?_ ?_)
        · intro u hu; simp at hu; subst hu; rfl
        · have := evF_len l i; simp; omega
        · have := evF_len l i; simp; omega
        · have := W.out.size; simp; omega
        intro v7' w9 hown hgr hat
        have hev : evF l (i + 1) = evF l i ++ [(i : Int)] := by rw [evF_succ, HT.out, if_neg (by simp)]
        have h7 : OwnI w9 w.heap.size v7' (evF l (i + 1)) := by
          unfold OwnI
          rw [hev, List.map_append, List.length_append]
          simpa using hown
        have h8 : OwnI w9 w.heap.size u8 ((List.range i).map (evT g l)) := own_kept (own_grown HO8.out (World.grownBy_alloc _ _ none)) hgr (by
          cases h : u8.ownBlock with
          | none => exact .inl rfl
          | some b => exact .inr fun e => AP.out b e.symm h)
        have hsw := W.out.size
        have hbw : Below w.heap.size w w9 := (W.out.alloc hsw _).grown hgr (by simp; omega) (fun k hk => (own_lt HO7.out k hk).1)
        have hap : ∀ b, v7'.ownBlock = some b → u8.ownBlock ≠ some b := by
          intro b e hb
          rcases hat with h | h
          · rw [h] at e
            exact AP.out b e hb
          · rw [h] at e
            injection e with e
            have := (own_lt HO8.out b hb).2
            first | omega | (simp at e; omega)
        have hbq : Box w9 qg 33 #[.slice (some ⟨ba, oa, none⟩) n ka, .slice (some ⟨bb, ob, none⟩) n kb, .slice (some ⟨bc_, oc, none⟩) n kc] := (BQg.out.alloc _).grown hgr (fun e => AQ.out.1 (by rw [← e]))
        have haq : v7'.ownBlock ≠ some qg ∧ u8.ownBlock ≠ some qg := ⟨fun e => by
          rcases hat with h | h
          · exact AQ.out.1 (by rw [← h]; exact e)
          · rw [h] at e
            injection e with e
            have := BQg.out.lt
            first | omega | (simp at e; omega), AQ.out.2⟩
        replace HO7 := Lib.hid h7
        replace HO8 := Lib.hid h8
        replace AP := Lib.hid hap
        replace AQ := Lib.hid haq
        replace BQg := Lib.hid hbq
        replace W := Lib.hid hbw
        obtain ⟨x7, k7, hx7, -⟩ := own_at hown
        clear hown hgr hat hev h7 h8 hsw hbw hap hbq haq
        obtain ⟨v7, hv7⟩ : ∃ v, v7' = v := ⟨_, rfl⟩
        rw [hv7] at HO7 AP AQ hx7 ⊢
        clear hv7
        have co := HCA.out w9 W.out i hlt
        obtain ⟨oz, hoz⟩ : ∃ oz, g.owner.getD i 0 = oz := ⟨_, rfl⟩
        rw [hoz] at co
        by_cases ho0 : oz = 0
        · have fo : (oz == 0) = true := by rw [beq_iff_eq]; exact ho0
          have HOE := Lib.hid (show g.owner.getD i 0 = 0 by rw [hoz, ho0])
          clear ho0 hoz hx7
          obtain ⟨bm, om, km, hrow⟩ := HROW.out i hlt
          have hmv := HR.out.moves_in (show i < g.owner.length by rw [HN.out]; exact hlt)
          have hat9 := HR.out.at i (by rw [HN.out]; exact hlt)
          obtain ⟨ms, hms⟩ : ∃ ms, g.moves.getD i [] = ms := ⟨_, rfl⟩
          obtain ⟨pz, hpz⟩ : ∃ pz, g.prio.getD i 0 = pz := ⟨_, rfl⟩
          rw [hms] at hrow hmv hat9
          rw [hpz, HN.out] at hat9
          rw [HN.out] at hmv
          have HRW := Lib.hid hrow
          have HMS := Lib.hid hms
          have HMI := Lib.hid hmv
          have HPZ : Hid (-9223372036854775808 ≤ pz ∧ pz ≤ 9223372036854775807) := Lib.hid (by omega)
          have HPZE := Lib.hid hpz
          have HCB := Lib.hid (fun w' hw' => HCBB.out w' hw' i hlt)
          rw [hpz] at HCB
          have hmsl : ms.length ≤ 200 := P.rise_len hat9.2.2.2.2 hmany
          clear hrow hmv hat9 hms hpz
          have hbb := BQg.out
          have gc0 : w9.cell? ⟨qg, 0, none⟩ = some (.slice (some ⟨ba, oa, none⟩) n ka) := hbb.cell 0 _ rfl
          have gc1 : w9.cell? ⟨qg, 1, none⟩ = some (.slice (some ⟨bb, ob, none⟩) n kb) := hbb.cell 1 _ rfl
          have gc2 : w9.cell? ⟨qg, 2, none⟩ = some (.slice (some ⟨bc_, oc, none⟩) n kc) := hbb.cell 2 _ rfl
          clear hbb
          go_wp2_with fail
          clear gc0 gc1 gc2 co
          refine (best_any g HR.out l HLL.out HLOW.out i (by rw [HN.out]; exact hlt) _ _ w9 (HV.out.on W.out) (HVL.out.on W.out)).mono ?_
          rintro e w10 ⟨rfl, hb⟩
          have HO7 := Lib.hid (own_grown HO7.out (grown_of_below hb none))
          have HO8 := Lib.hid (own_grown HO8.out (grown_of_below hb none))
          replace BQg := Lib.hid (BQg.out.keep (grown_of_below hb none))
          replace W := Lib.hid (W.out.trans (hb.mono W.out.size))
          clear hb
          obtain ⟨bt, hbt⟩ : ∃ u, (g.choose l i).2 = u := ⟨_, rfl⟩
          rw [hbt]
          obtain ⟨ys, x, zs, hsp, hch, hys⟩ := P.G.choose_first HR.out l (show i < g.owner.length by rw [HN.out]; exact hlt) HOE.out
          have HCH := Lib.hid (show (g.choose l i).1 = x by rw [hch])
          have HBT := Lib.hid (show P.Tup.up g.tups (g.prio.getD i 0) (P.tget l x) = bt by rw [← hbt, hch])
          rw [HBT.out] at hys
          rw [HMS.out] at hsp
          have HSP := Lib.hid hsp
          have HYS := Lib.hid hys
          clear hbt hch hys hsp
          unfold tc
          go_upto_region 14 with (fail)
          have hsz10 := W.out.size
          have bq : Box (w10.alloc (.cells #[.bool bt.top, .int .i64 bt.a, .int .i64 bt.b, .int .i64 bt.c, .int .i64 bt.d] 24)) w10.heap.size 24 #[.bool bt.top, .int .i64 bt.a, .int .i64 bt.b, .int .i64 bt.c, .int .i64 bt.d] := Box.new _ _ _
          have hgq := World.grownBy_alloc w10 (.cells #[.bool bt.top, .int .i64 bt.a, .int .i64 bt.b, .int .i64 bt.c, .int .i64 bt.d] 24) none
          replace BQg := Lib.hid (BQg.out.keep hgq)
          replace W := Lib.hid (W.out.trans ((below_of_grown hgq).mono W.out.size))
          have HO7 := Lib.hid (own_grown HO7.out hgq)
          have HO8 := Lib.hid (own_grown HO8.out hgq)
          generalize (w10.alloc (.cells #[.bool bt.top, .int .i64 bt.a, .int .i64 bt.b, .int .i64 bt.c, .int .i64 bt.d] 24)) = w11 at bq HO7 HO8 BQg W ⊢
          generalize w10.heap.size = qb at bq ⊢
          have BQb := Lib.hid bq
          clear bq hgq
          clear hsz10
          have crow := (HRW.out w11 W.out).1
          have hbb := BQg.out
          have gc0 : w11.cell? ⟨qg, 0, none⟩ = some (.slice (some ⟨ba, oa, none⟩) n ka) := hbb.cell 0 _ rfl
          have gc1 : w11.cell? ⟨qg, 1, none⟩ = some (.slice (some ⟨bb, ob, none⟩) n kb) := hbb.cell 1 _ rfl
          have gc2 : w11.cell? ⟨qg, 2, none⟩ = some (.slice (some ⟨bc_, oc, none⟩) n kc) := hbb.cell 2 _ rfl
          clear hbb
          go_wp2_with fail
          clear crow gc0 gc1 gc2
          obtain ⟨wo, rfl⟩ : ∃ wo : World, wo = wr := ⟨_, rfl⟩
          go_loopw [10, 12] (fun mvv kv wr => ∃ (k : Nat) (mv : Int), k ≤ ms.length ∧ kv = .int .i64 ((k : Int) - 1) ∧ mvv = .int .i64 mv ∧ (k ≤ ys.length → mv = x) ∧ OwnI wr w.heap.size v7 (evF l (i + 1)) ∧ OwnI wr w.heap.size u8 ((List.range i).map (evT g l)) ∧ Box wr qg 33 #[.slice (some ⟨ba, oa, none⟩) n ka, .slice (some ⟨bb, ob, none⟩) n kb, .slice (some ⟨bc_, oc, none⟩) n kc] ∧ Box wr qb 24 (tc bt) ∧ Below w.heap.size w wr) (fun _ kv _ => (intOf kv + 1).toNat)
          case atStart => exact ⟨ms.length, -1, Nat.le_refl _, rfl, rfl, fun h => (by have h2 := congrArg List.length HSP.out; simp at h2; omega), HO7.out, HO8.out, BQg.out, BQb.out, W.out⟩
          case round =>
            obtain ⟨k0, mv, hk, rfl, rfl, hmv, h7, h8, bg, bb2, hb⟩ := hrel
            have HMV := Lib.hid hmv
            replace HO7 := Lib.hid h7
            replace HO8 := Lib.hid h8
            replace BQg := Lib.hid bg
            replace BQb := Lib.hid bb2
            replace W := Lib.hid hb
            clear hmv h7 h8 bg bb2 hb
            cases k0 with
            | zero =>
              have fk : decide ((((0 : Nat) : Int) - 1) ≥ 0) = false := by decide
              have fk2 : decide (0 ≤ (((0 : Nat) : Int) - 1)) = false := by decide
              have HEV := Lib.hid (show evT g l i = mv from by
                unfold evT
                rw [HT.out, if_neg (by simp), HOE.out, if_pos rfl, HCH.out]
                exact (HMV.out (Nat.zero_le _)).symm)
              go_wp2_with (at_builtin; refine wpl_append elInt rfl (.tmp 93) (.tmp 95) rfl rfl (own_grown HO8.out (World.grownBy_alloc _ _ none)) rfl (row_one _ _ _) ?_ ?_ ?_ ?_ ?_)
              · intro u hu; simp at hu; subst hu; rfl
              · simp; omega
              · simp; omega
              · have := W.out.size; simp; omega
              intro v8' w9 hown hgr hat
              have h7 : OwnI w9 w.heap.size v7 (evF l (i + 1)) := own_kept (own_grown HO7.out (World.grownBy_alloc _ _ none)) hgr (by
                cases h : v7.ownBlock with
                | none => exact .inl rfl
                | some b => exact .inr fun e => AP.out b h e.symm)
              have h8 : OwnI w9 w.heap.size v8' ((List.range (i + 1)).map (evT g l)) := by
                unfold OwnI
                rw [List.range_succ, List.map_append, List.length_append, List.map_append, List.length_map, List.length_range]
                have e : ([i].map (evT g l)).map (Value.int .i64) = [.int .i64 (mv)] := by
                  show [Value.int .i64 (evT g l i)] = _
                  rw [HEV.out]
                rw [e]
                simpa using hown
              have hsw := W.out.size
              have hbw : Below w.heap.size w w9 := (W.out.alloc hsw _).grown hgr (by simp; omega) (fun k hk => (own_lt HO8.out k hk).1)
              have hap : ∀ b, v7.ownBlock = some b → v8'.ownBlock ≠ some b := by
                intro b hb e
                rcases hat with h | h
                · rw [h] at e
                  exact AP.out b hb e
                · rw [h] at e
                  injection e with e
                  have := (own_lt HO7.out b hb).2
                  first | omega | (simp at e; omega)
              have hbq : Box w9 qg 33 #[.slice (some ⟨ba, oa, none⟩) n ka, .slice (some ⟨bb, ob, none⟩) n kb, .slice (some ⟨bc_, oc, none⟩) n kc] := (BQg.out.alloc _).grown hgr (fun e => by
                have h1 := (own_lt HO8.out qg e.symm)
                exact AQ.out.2 (by rw [← e]))
              have haq : v7.ownBlock ≠ some qg ∧ v8'.ownBlock ≠ some qg := ⟨AQ.out.1, fun e => by
                rcases hat with h | h
                · exact AQ.out.2 (by rw [← h]; exact e)
                · rw [h] at e
                  injection e with e
                  have := BQg.out.lt
                  first | omega | (simp at e; omega)⟩
              have HREL := Lib.hid (And.intro h7 (And.intro h8 (And.intro hap (And.intro haq (And.intro hbq hbw)))))
              obtain ⟨x8, k8, rfl, -⟩ := own_at hown
              clear hown hgr hat h7 h8 hsw hbw hap hbq haq
              go_wp2_with fail
              go_roundw
              case rel => exact ⟨i + 1, by omega, by first | rfl | go_num, HREL.out⟩
              case measure => simp [intOf]; omega
            | succ k =>
              have e0 : (((k + 1 : Nat) : Int) - 1) = (k : Int) := by omega
              rw [e0]
              clear e0
              have hk0 : (0 : Int) ≤ (k : Int) := Int.natCast_nonneg _
              have fk : decide ((k : Int) ≥ 0) = true := decide_eq_true hk0
              have fk2 : decide (0 ≤ (k : Int)) = true := decide_eq_true hk0
              have hki : (k : Int) < (ms.length : Int) := by omega
              have HKL := Lib.hid (show k < ms.length by omega)
              obtain ⟨mz, hmz⟩ : ∃ mz, ms.getD k 0 = mz := ⟨_, rfl⟩
              have hmb2 := HMI.out (ms.getD k 0) (by rw [List.getD_eq_getElem?_getD, List.getElem?_eq_getElem HKL.out]; exact List.getElem_mem HKL.out)
              have htk : ms.take (k + 1) = ms.take k ++ [ms.getD k 0] := by
                rw [List.take_succ_eq_append_getElem HKL.out, List.getD_eq_getElem?_getD, List.getElem?_eq_getElem HKL.out]
                rfl
              rw [hmz] at hmb2 htk
              obtain ⟨mn, rfl⟩ := Int.eq_ofNat_of_zero_le (show 0 ≤ mz by omega)
              have hmi : (mn : Int) < (n : Int) := hmb2.2
              have hm0 : (0 : Int) ≤ (mn : Int) := hmb2.1
              have HTK := Lib.hid htk
              have HPM := Lib.hid hmz
              obtain ⟨t, ht⟩ : ∃ t, l.getD mn .zero = t := ⟨_, rfl⟩
              have HT0 := Lib.hid ht
              have HTB := Lib.hid (show ∀ k, k < 4 → -9223372036854775808 ≤ ct t k from fun k hk => by rw [← ht]; exact HLOW.out mn k hk)
              have HCL := Lib.hid (fun w' hw' => HCLL.out w' hw' mn (by omega))
              rw [ht] at HCL
              obtain ⟨u, hu⟩ : ∃ u, P.Tup.up g.tups pz t = u := ⟨_, rfl⟩
              have HU0 := Lib.hid hu
              have HU := HU0
              clear hmz hmb2 htk ht hu
              go_upto_region 17 with (fail)
              refine Rt.wp_region_tail 1 (fun idx => match idx with | 0 => (fun v _ _ => v = .agg #[.slice (some ⟨ba, oa, none⟩) n ka, .slice (some ⟨bb, ob, none⟩) n kb, .slice (some ⟨bc_, oc, none⟩) n kc]) | 1 => (fun v _ _ => v = (.pointer (some ⟨qg, 1, none⟩))) | 2 => (fun v _ _ => v = (.slice (some ⟨bb, ob, none⟩) n kb)) | 3 => (fun v _ _ => v = (.int .i64 (i : Int))) | 4 => (fun v _ _ => v = (.pointer (some ⟨bb, ob + i, none⟩))) | 5 => (fun v _ _ => v = (.int .i64 pz)) | 6 => (fun v _ _ => v = (.slice (some ⟨bl, ol, none⟩) n kl)) | 7 => (fun v _ _ => v = (.pointer (some ⟨qg, 2, none⟩))) | 8 => (fun v _ _ => v = (.slice (some ⟨bc_, oc, none⟩) n kc)) | 9 => (fun v _ _ => v = (.int .i64 (i : Int))) | 10 => (fun v _ _ => v = (.pointer (some ⟨bc_, oc + i, none⟩))) | 11 => (fun v _ _ => v = (.slice (some ⟨bm, om, none⟩) ms.length km)) | 12 => (fun v _ _ => v = (.int .i64 (k : Int))) | 13 => (fun v _ _ => v = (.pointer (some ⟨bm, om + k, none⟩))) | 14 => (fun v _ _ => v = (.int .i64 (mn : Int))) | 15 => (fun v _ _ => v = (.pointer (some ⟨bl, ol + mn * 5, none⟩))) | 16 => (fun v _ _ => v = .agg #[.bool t.top, .int .i64 t.a, .int .i64 t.b, .int .i64 t.c, .int .i64 t.d]) | 17 => (fun v _ _ => v = .agg (tc u)) | 18 => (fun v _ w' => ∃ q, v = .pointer (some ⟨q, 0, none⟩) ∧ wr.heap.size ≤ q ∧ Box w' q 24 (tc .zero)) | _ => fun _ _ _ => True) (fun _ _ _ _ => True) (Rk.allK) 99 (by kernel_rfl) (by rfl) (by kernel_rfl) (by rfl) ?_ ?_ ?_ ?_
              · refine ⟨?_, ?_, ?_, ?_, ?_, ?_, ?_, ?_, ?_, ?_, ?_, ?_, ?_, ?_, ?_, ?_, ?_, ?_, ?_, trivial⟩
                · intro A w' K vals h hn hT hgk hK0
                  have r0 : A.tmps[2]?.getD undef = .pointer (some ⟨qg, 0, none⟩) := Rg.slot h.1
                  have hbx := BQg.out.keep (Rk.grown_of hgk)
                  have c0 : w'.cell? ⟨qg, 0, none⟩ = some (.slice (some ⟨ba, oa, none⟩) n ka) := hbx.cell 0 _ rfl
                  have c1 : w'.cell? ⟨qg, 1, none⟩ = some (.slice (some ⟨bb, ob, none⟩) n kb) := hbx.cell 1 _ rfl
                  have c2 : w'.cell? ⟨qg, 2, none⟩ = some (.slice (some ⟨bc_, oc, none⟩) n kc) := hbx.cell 2 _ rfl
                  clear h hn hT hgk hbx
                  simp [Oper.wp, execOp, go_sem, r0, c0, c1, c2]
                  exact hK0 _ _ (Rk.Keeps.refl _ _) rfl trivial
                · intro A w' K vals h hn hT hgk hK0
                  have r0 : A.tmps[2]?.getD undef = .pointer (some ⟨qg, 0, none⟩) := Rg.slot h.1
                  clear h hn hT hgk
                  simp [Oper.wp, execOp, go_sem, r0]
                  exact hK0 _ _ (Rk.Keeps.refl _ _) rfl trivial
                · intro A w' K vals h hn hT hgk hK0
                  have r0 : A.tmps[64]?.getD undef = vals 1 := Rg.slot (h.1)
                  have r1 : vals 1 = (.pointer (some ⟨qg, 1, none⟩)) := hn.1
                  have hbx := BQg.out.keep (Rk.grown_of hgk)
                  have c0 : w'.cell? ⟨qg, 1, none⟩ = some (.slice (some ⟨bb, ob, none⟩) n kb) := hbx.cell 1 _ rfl
                  clear h hn hT hgk hbx
                  simp [Oper.wp, execOp, go_sem, r0, r1, c0]
                  exact hK0 _ _ (Rk.Keeps.refl _ _) rfl trivial
                · intro A w' K vals h hn hT hgk hK0
                  have r0 : A.tmps[9]?.getD undef = .int .i64 (i : Int) := Rg.slot h.1
                  clear h hn hT hgk
                  simp [Oper.wp, execOp, go_sem, r0]
                  exact hK0 _ _ (Rk.Keeps.refl _ _) rfl trivial
                · intro A w' K vals h hn hT hgk hK0
                  have r0 : A.tmps[65]?.getD undef = vals 2 := Rg.slot h.1
                  have s0 : vals 2 = (.slice (some ⟨bb, ob, none⟩) n kb) := hn.1
                  have r1 : A.tmps[66]?.getD undef = vals 3 := Rg.slot h.2.1
                  have s1 : vals 3 = (.int .i64 (i : Int)) := hn.2.1
                  clear h hn hT hgk
                  simp [Oper.wp, execOp, go_sem, r0, r1, s0, s1, hai, ha0]
                  exact hK0 _ _ (Rk.Keeps.refl _ _) rfl trivial
                · intro A w' K vals h hn hT hgk hK0
                  have r0 : A.tmps[67]?.getD undef = vals 4 := Rg.slot (h.1)
                  have r1 : vals 4 = (.pointer (some ⟨bb, ob + i, none⟩)) := hn.1
                  have c : w'.cell? ⟨bb, ob + i, none⟩ = some (.int .i64 pz) := HCB.out w' (W.out.trans ((below_of_grown (Rk.grown_of hgk)).mono W.out.size))
                  clear h hn hT hgk
                  simp [Oper.wp, execOp, go_sem, r0, r1, c]
                  exact hK0 _ _ (Rk.Keeps.refl _ _) rfl trivial
                · intro A w' K vals h hn hT hgk hK0
                  have r0 : A.tmps[1]?.getD undef = .slice (some ⟨bl, ol, none⟩) n kl := Rg.slot h.1
                  clear h hn hT hgk
                  simp [Oper.wp, execOp, go_sem, r0]
                  exact hK0 _ _ (Rk.Keeps.refl _ _) rfl trivial
                · intro A w' K vals h hn hT hgk hK0
                  have r0 : A.tmps[2]?.getD undef = .pointer (some ⟨qg, 0, none⟩) := Rg.slot h.1
                  clear h hn hT hgk
                  simp [Oper.wp, execOp, go_sem, r0]
                  exact hK0 _ _ (Rk.Keeps.refl _ _) rfl trivial
                · intro A w' K vals h hn hT hgk hK0
                  have r0 : A.tmps[70]?.getD undef = vals 7 := Rg.slot (h.1)
                  have r1 : vals 7 = (.pointer (some ⟨qg, 2, none⟩)) := hn.1
                  have hbx := BQg.out.keep (Rk.grown_of hgk)
                  have c0 : w'.cell? ⟨qg, 2, none⟩ = some (.slice (some ⟨bc_, oc, none⟩) n kc) := hbx.cell 2 _ rfl
                  clear h hn hT hgk hbx
                  simp [Oper.wp, execOp, go_sem, r0, r1, c0]
                  exact hK0 _ _ (Rk.Keeps.refl _ _) rfl trivial
                · intro A w' K vals h hn hT hgk hK0
                  have r0 : A.tmps[9]?.getD undef = .int .i64 (i : Int) := Rg.slot h.1
                  clear h hn hT hgk
                  simp [Oper.wp, execOp, go_sem, r0]
                  exact hK0 _ _ (Rk.Keeps.refl _ _) rfl trivial
                · intro A w' K vals h hn hT hgk hK0
                  have r0 : A.tmps[71]?.getD undef = vals 8 := Rg.slot h.1
                  have s0 : vals 8 = (.slice (some ⟨bc_, oc, none⟩) n kc) := hn.1
                  have r1 : A.tmps[72]?.getD undef = vals 9 := Rg.slot h.2.1
                  have s1 : vals 9 = (.int .i64 (i : Int)) := hn.2.1
                  clear h hn hT hgk
                  simp [Oper.wp, execOp, go_sem, r0, r1, s0, s1, hai, ha0]
                  exact hK0 _ _ (Rk.Keeps.refl _ _) rfl trivial
                · intro A w' K vals h hn hT hgk hK0
                  have r0 : A.tmps[73]?.getD undef = vals 10 := Rg.slot (h.1)
                  have r1 : vals 10 = (.pointer (some ⟨bc_, oc + i, none⟩)) := hn.1
                  have c : w'.cell? ⟨bc_, oc + i, none⟩ = some (.slice (some ⟨bm, om, none⟩) ms.length km) := (HRW.out w' (W.out.trans ((below_of_grown (Rk.grown_of hgk)).mono W.out.size))).1
                  clear h hn hT hgk
                  simp [Oper.wp, execOp, go_sem, r0, r1, c]
                  exact hK0 _ _ (Rk.Keeps.refl _ _) rfl trivial
                · intro A w' K vals h hn hT hgk hK0
                  have r0 : A.tmps[12]?.getD undef = .int .i64 (k : Int) := Rg.slot h.1
                  clear h hn hT hgk
                  simp [Oper.wp, execOp, go_sem, r0]
                  exact hK0 _ _ (Rk.Keeps.refl _ _) rfl trivial
                · intro A w' K vals h hn hT hgk hK0
                  have r0 : A.tmps[74]?.getD undef = vals 11 := Rg.slot h.1
                  have s0 : vals 11 = (.slice (some ⟨bm, om, none⟩) ms.length km) := hn.1
                  have r1 : A.tmps[75]?.getD undef = vals 12 := Rg.slot h.2.1
                  have s1 : vals 12 = (.int .i64 (k : Int)) := hn.2.1
                  clear h hn hT hgk
                  simp [Oper.wp, execOp, go_sem, r0, r1, s0, s1, hki, hk0]
                  exact hK0 _ _ (Rk.Keeps.refl _ _) rfl trivial
                · intro A w' K vals h hn hT hgk hK0
                  have r0 : A.tmps[76]?.getD undef = vals 13 := Rg.slot (h.1)
                  have r1 : vals 13 = (.pointer (some ⟨bm, om + k, none⟩)) := hn.1
                  have c : w'.cell? ⟨bm, om + k, none⟩ = some (.int .i64 (mn : Int)) := (by have h := (HRW.out w' (W.out.trans ((below_of_grown (Rk.grown_of hgk)).mono W.out.size))).2 k HKL.out; rw [HPM.out] at h; exact h)
                  clear h hn hT hgk
                  simp [Oper.wp, execOp, go_sem, r0, r1, c]
                  exact hK0 _ _ (Rk.Keeps.refl _ _) rfl trivial
                · intro A w' K vals h hn hT hgk hK0
                  have r0 : A.tmps[69]?.getD undef = vals 6 := Rg.slot h.1
                  have s0 : vals 6 = (.slice (some ⟨bl, ol, none⟩) n kl) := hn.1
                  have r1 : A.tmps[77]?.getD undef = vals 14 := Rg.slot h.2.1
                  have s1 : vals 14 = (.int .i64 (mn : Int)) := hn.2.1
                  clear h hn hT hgk
                  simp [Oper.wp, execOp, go_sem, r0, r1, s0, s1, hmi, hm0]
                  exact hK0 _ _ (Rk.Keeps.refl _ _) rfl trivial
                · intro A w' K vals h hn hT hgk hK0
                  have r0 : A.tmps[78]?.getD undef = vals 15 := Rg.slot h.1
                  have s0 : vals 15 = (.pointer (some ⟨bl, ol + mn * 5, none⟩)) := hn.1
                  have c0 : w'.cell? ⟨bl, ol + mn * 5, none⟩ = some (.bool t.top) := HCL.out w' (W.out.trans ((below_of_grown (Rk.grown_of hgk)).mono W.out.size)) 0 _ rfl
                  have c1 : w'.cell? ⟨bl, ol + mn * 5 + 1, none⟩ = some (.int .i64 t.a) := HCL.out w' (W.out.trans ((below_of_grown (Rk.grown_of hgk)).mono W.out.size)) 1 _ rfl
                  have c2 : w'.cell? ⟨bl, ol + mn * 5 + 2, none⟩ = some (.int .i64 t.b) := HCL.out w' (W.out.trans ((below_of_grown (Rk.grown_of hgk)).mono W.out.size)) 2 _ rfl
                  have c3 : w'.cell? ⟨bl, ol + mn * 5 + 3, none⟩ = some (.int .i64 t.c) := HCL.out w' (W.out.trans ((below_of_grown (Rk.grown_of hgk)).mono W.out.size)) 3 _ rfl
                  have c4 : w'.cell? ⟨bl, ol + mn * 5 + 4, none⟩ = some (.int .i64 t.d) := HCL.out w' (W.out.trans ((below_of_grown (Rk.grown_of hgk)).mono W.out.size)) 4 _ rfl
                  clear h hn hT hgk
                  simp [Oper.wp, execOp, go_sem, r0, s0, c0, c1, c2, c3, c4]
                  exact hK0 _ _ (Rk.Keeps.refl _ _) rfl trivial
                · intro A w' K vals h hn hT hgk hK0
                  have r0 : A.tmps[63]?.getD undef = vals 0 := Rg.slot h.2.1
                  have r1 : A.tmps[68]?.getD undef = vals 5 := Rg.slot h.2.2.1
                  have r2 : A.tmps[79]?.getD undef = vals 16 := Rg.slot h.2.2.2.1
                  have s0 : vals 0 = .agg #[.slice (some ⟨ba, oa, none⟩) n ka, .slice (some ⟨bb, ob, none⟩) n kb, .slice (some ⟨bc_, oc, none⟩) n kc] := hn.1
                  have s1 : vals 5 = (.int .i64 pz) := hn.2.1
                  have s2 : vals 16 = .agg (tc t) := hn.2.2.1
                  have hb := (W.out.trans ((below_of_grown (Rk.grown_of hgk)).mono W.out.size))
                  clear h hn hT
                  simp [Oper.wp, go_sem, r0, r1, r2, s0, s1, s2]
                  refine (rup_any g t pz _ w' (HV.out.on hb) HPZ.out HTB.out).mono ?_
                  rintro e w'' ⟨rfl, hb⟩
                  exact hK0 _ _ (Rk.keep_of (grown_of_below hb _)) (congrArg (fun x => Value.agg (tc x)) HU.out) trivial
                · intro A w' K vals h hn hT hgk hK0
                  have hsz := hgk.size
                  clear h hn hT
                  simp [Oper.wp, execOp, go_sem]
                  exact hK0 _ _ (Rk.keep_of (World.grownBy_alloc _ _ _)) ⟨_, rfl, hsz, Box.new _ _ _⟩ trivial
              · refine ⟨?_, ?_, ?_, ?_, ?_, ?_, ?_, ?_, ?_, ?_, ?_, ?_, ?_, ?_, ?_, ?_, ?_, ?_, ?_, trivial⟩
                · exact fun _ _ _ _ _ _ h => h
                · exact fun _ _ _ _ _ _ h => h
                · exact fun _ _ _ _ _ _ h => h
                · exact fun _ _ _ _ _ _ h => h
                · exact fun _ _ _ _ _ _ h => h
                · exact fun _ _ _ _ _ _ h => h
                · exact fun _ _ _ _ _ _ h => h
                · exact fun _ _ _ _ _ _ h => h
                · exact fun _ _ _ _ _ _ h => h
                · exact fun _ _ _ _ _ _ h => h
                · exact fun _ _ _ _ _ _ h => h
                · exact fun _ _ _ _ _ _ h => h
                · exact fun _ _ _ _ _ _ h => h
                · exact fun _ _ _ _ _ _ h => h
                · exact fun _ _ _ _ _ _ h => h
                · exact fun _ _ _ _ _ _ h => h
                · exact fun _ _ _ _ _ _ h => h
                · exact fun _ _ _ _ _ _ h => h
                · exact fun _ _ _ _ _ h ⟨q, h1, h2, hb⟩ => ⟨q, h1, h2, hb.keep (Rk.grown_of h)⟩
              · exact fun _ _ _ _ _ _ h => h
              · intro vals w8 G hgk hS hG
                have sA : vals 17 = .agg #[.bool u.top, .int .i64 u.a, .int .i64 u.b, .int .i64 u.c, .int .i64 u.d] := hS.2.2.2.2.2.2.2.2.2.2.2.2.2.2.2.2.2.1
                obtain ⟨qx, sB, hqx, hbx⟩ : ∃ q, vals 18 = .pointer (some ⟨q, 0, none⟩) ∧ wr.heap.size ≤ q ∧ Box w8 q 24 (tc .zero) := hS.2.2.2.2.2.2.2.2.2.2.2.2.2.2.2.2.2.2.1
                clear hS
                have hb := below_of_grown (Rk.grown_of hgk)
                clear hgk
                have qc0 : w8.cell? ⟨qx, 0, none⟩ = some (.bool false) := hbx.cell 0 _ rfl
                have qc1 : w8.cell? ⟨qx, 1, none⟩ = some (.int .i64 0) := hbx.cell 1 _ rfl
                have qc2 : w8.cell? ⟨qx, 2, none⟩ = some (.int .i64 0) := hbx.cell 2 _ rfl
                have qc3 : w8.cell? ⟨qx, 3, none⟩ = some (.int .i64 0) := hbx.cell 3 _ rfl
                have qc4 : w8.cell? ⟨qx, 4, none⟩ = some (.int .i64 0) := hbx.cell 4 _ rfl
                have qf0 : w8.frozen? ⟨qx, 0, none⟩ = false := hbx.frozen 0
                have qf1 : w8.frozen? ⟨qx, 1, none⟩ = false := hbx.frozen 1
                have qf2 : w8.frozen? ⟨qx, 2, none⟩ = false := hbx.frozen 2
                have qf3 : w8.frozen? ⟨qx, 3, none⟩ = false := hbx.frozen 3
                have qf4 : w8.frozen? ⟨qx, 4, none⟩ = false := hbx.frozen 4
                refine hG ?_
                clear hG
                simp only [List.take, List.drop, List.length, Nat.reduceSub, Nat.reduceAdd, Rg.putAll, Act.put, List.setIfInBounds_toArray, List.set_cons_succ, List.set_cons_zero, sA, sB]
                clear sA sB
                go_upto_region 18 with (fail)
                clear qc0 qc1 qc2 qc3 qc4 qf0 qf1 qf2 qf3 qf4
                have by2 := hbx.stT u
                have hlow := W.out.size
                have hg5 := grown_st u (w := w8) (q := qx)
                replace BQg := Lib.hid ((BQg.out.keep (grown_of_below hb none)).grown hg5 (fun e => by have := BQg.out.lt; injection e; omega))
                replace BQb := Lib.hid ((BQb.out.keep (grown_of_below hb none)).grown hg5 (fun e => by have := BQb.out.lt; injection e; omega))
                have HO7 := Lib.hid (own_kept (own_grown HO7.out (grown_of_below hb none)) hg5 (.inr fun e => by have := (own_lt HO7.out qx e).2; omega))
                have HO8 := Lib.hid (own_kept (own_grown HO8.out (grown_of_below hb none)) hg5 (.inr fun e => by have := (own_lt HO8.out qx e).2; omega))
                have W := Lib.hid (below_stT (W.out.trans (hb.mono W.out.size)) (q := qx) (by omega) u)
                clear hb hqx hbx hlow hg5
                generalize (((((w8.setCell ⟨qx, 0, none⟩ (.bool u.top)).setCell ⟨qx, 1, none⟩ (.int .i64 u.a)).setCell ⟨qx, 2, none⟩ (.int .i64 u.b)).setCell ⟨qx, 3, none⟩ (.int .i64 u.c)).setCell ⟨qx, 4, none⟩ (.int .i64 u.d)) = w9 at by2 BQg BQb HO7 HO8 W ⊢
                have BQy := Lib.hid by2
                clear by2
                have hbb := BQy.out
                have yc0 : w9.cell? ⟨qx, 0, none⟩ = some (.bool u.top) := hbb.cell 0 _ rfl
                have yc1 : w9.cell? ⟨qx, 1, none⟩ = some (.int .i64 u.a) := hbb.cell 1 _ rfl
                have yc2 : w9.cell? ⟨qx, 2, none⟩ = some (.int .i64 u.b) := hbb.cell 2 _ rfl
                have yc3 : w9.cell? ⟨qx, 3, none⟩ = some (.int .i64 u.c) := hbb.cell 3 _ rfl
                have yc4 : w9.cell? ⟨qx, 4, none⟩ = some (.int .i64 u.d) := hbb.cell 4 _ rfl
                clear hbb
                have hbb := BQb.out
                have xc0 : w9.cell? ⟨qb, 0, none⟩ = some (.bool bt.top) := hbb.cell 0 _ rfl
                have xc1 : w9.cell? ⟨qb, 1, none⟩ = some (.int .i64 bt.a) := hbb.cell 1 _ rfl
                have xc2 : w9.cell? ⟨qb, 2, none⟩ = some (.int .i64 bt.b) := hbb.cell 2 _ rfl
                have xc3 : w9.cell? ⟨qb, 3, none⟩ = some (.int .i64 bt.c) := hbb.cell 3 _ rfl
                have xc4 : w9.cell? ⟨qb, 4, none⟩ = some (.int .i64 bt.d) := hbb.cell 4 _ rfl
                clear hbb
                go_wp2_with fail
                clear yc0 yc1 yc2 yc3 yc4 xc0 xc1 xc2 xc3 xc4
                refine (rcompare_any u bt 0 _).mono ?_
                rintro e w7 ⟨rfl, hb⟩
                have HO7 := Lib.hid (own_grown HO7.out (grown_of_below hb none))
                have HO8 := Lib.hid (own_grown HO8.out (grown_of_below hb none))
                replace BQg := Lib.hid (BQg.out.keep (grown_of_below hb none))
                replace BQb := Lib.hid (BQb.out.keep (grown_of_below hb none))
                replace W := Lib.hid (W.out.trans (hb.mono W.out.size))
                clear hb
                obtain ⟨cz, hcz⟩ : ∃ c, P.Tup.cmp u bt 0 = c := ⟨_, rfl⟩
                have HCZ := Lib.hid hcz
                rw [hcz]
                clear hcz
                have crow := (HRW.out w7 W.out).1
                have cmv : w7.cell? ⟨bm, om + k, none⟩ = some (.int .i64 (mn : Int)) := by have h := (HRW.out w7 W.out).2 k HKL.out; rw [HPM.out] at h; exact h
                have hbb := BQg.out
                have gc0 : w7.cell? ⟨qg, 0, none⟩ = some (.slice (some ⟨ba, oa, none⟩) n ka) := hbb.cell 0 _ rfl
                have gc1 : w7.cell? ⟨qg, 1, none⟩ = some (.slice (some ⟨bb, ob, none⟩) n kb) := hbb.cell 1 _ rfl
                have gc2 : w7.cell? ⟨qg, 2, none⟩ = some (.slice (some ⟨bc_, oc, none⟩) n kc) := hbb.cell 2 _ rfl
                clear hbb
                by_cases hc : cz = 0
                · have fc : (cz == 0) = true := by rw [beq_iff_eq]; exact hc
                  have HNX := Lib.hid (show k ≤ ys.length → (mn : Int) = x from fun h => by
                    rcases Nat.lt_or_ge k ys.length with h1 | h1
                    · exfalso
                      have h2 := HYS.out (ms.getD k 0) (by
                        rw [HSP.out, List.getD_eq_getElem?_getD, List.getElem?_append_left h1, List.getElem?_eq_getElem h1]
                        exact List.getElem_mem h1)
                      rw [HPM.out, HPZE.out, P.tget_nat, HT0.out, HU.out, HCZ.out] at h2
                      exact h2 hc
                    · have h2 := HPM.out
                      rw [HSP.out, List.getD_eq_getElem?_getD, List.getElem?_append_right h1, show k - ys.length = 0 by omega] at h2
                      simpa using h2.symm)
                  clear hc
                  go_wp2_with fail
                  clear crow cmv gc0 gc1 gc2
                  go_roundw
                  case rel => exact ⟨k, (mn : Int), by omega, by first | rfl | go_num | (congr 1 <;> omega), rfl, HNX.out, HO7.out, HO8.out, BQg.out, BQb.out, W.out⟩
                  case measure => simp [intOf] <;> omega
                · have fc : (cz == 0) = false := by rw [beq_eq_false_iff_ne]; exact hc
                  have HNX := Lib.hid (show k ≤ ys.length → mv = x from fun h => by
                    rcases Nat.lt_or_ge k ys.length with h1 | h1
                    · exact HMV.out (by omega)
                    · exfalso
                      have h2 := HPM.out
                      rw [HSP.out, List.getD_eq_getElem?_getD, List.getElem?_append_right h1, show k - ys.length = 0 by omega] at h2
                      have h2 : x = (mn : Int) := by simpa using h2
                      have h3 := HU.out
                      have h4 := HBT.out
                      rw [h2, P.tget_nat, HT0.out] at h4
                      rw [← HPZE.out] at h3
                      rw [h3] at h4
                      have h5 := HCZ.out
                      rw [← h4] at h5
                      have h6 := (P.Tup.cmp_le u u).2 (P.Tup.le_refl u)
                      have h7 := P.Tup.cmp_back u u 0
                      omega)
                  clear hc
                  go_wp2_with fail
                  clear crow cmv gc0 gc1 gc2
                  go_roundw
                  case rel => exact ⟨k, mv, by omega, by first | rfl | go_num | (congr 1 <;> omega), rfl, HNX.out, HO7.out, HO8.out, BQg.out, BQb.out, W.out⟩
                  case measure => simp [intOf] <;> omega
        · have fo : (oz == 0) = false := by rw [beq_eq_false_iff_ne]; exact ho0
          have HEV := Lib.hid (show evT g l i = -1 from by unfold evT; rw [HT.out, if_neg (by simp), hoz, if_neg ho0])
          clear ho0 hoz hx7
          have hbb := BQg.out
          have gc0 : w9.cell? ⟨qg, 0, none⟩ = some (.slice (some ⟨ba, oa, none⟩) n ka) := hbb.cell 0 _ rfl
          have gc1 : w9.cell? ⟨qg, 1, none⟩ = some (.slice (some ⟨bb, ob, none⟩) n kb) := hbb.cell 1 _ rfl
          have gc2 : w9.cell? ⟨qg, 2, none⟩ = some (.slice (some ⟨bc_, oc, none⟩) n kc) := hbb.cell 2 _ rfl
          clear hbb
          go_upto_region 20 with (fail)
          clear gc0 gc1 gc2 co
          go_wp2_with (at_builtin; refine wpl_append elInt rfl (.tmp 93) (.tmp 95) rfl rfl (own_grown HO8.out (World.grownBy_alloc _ _ none)) rfl (row_one _ _ _) ?_ ?_ ?_ ?_ ?_)
          · intro u hu; simp at hu; subst hu; rfl
          · simp; omega
          · simp; omega
          · have := W.out.size; simp; omega
          intro v8' w12 hown hgr hat
          have h7 : OwnI w12 w.heap.size v7 (evF l (i + 1)) := own_kept (own_grown HO7.out (World.grownBy_alloc _ _ none)) hgr (by
            cases h : v7.ownBlock with
            | none => exact .inl rfl
            | some b => exact .inr fun e => AP.out b h e.symm)
          have h8 : OwnI w12 w.heap.size v8' ((List.range (i + 1)).map (evT g l)) := by
            unfold OwnI
            rw [List.range_succ, List.map_append, List.length_append, List.map_append, List.length_map, List.length_range]
            have e : ([i].map (evT g l)).map (Value.int .i64) = [.int .i64 (-1)] := by
              show [Value.int .i64 (evT g l i)] = _
              rw [HEV.out]
            rw [e]
            simpa using hown
          have hsw := W.out.size
          have hbw : Below w.heap.size w w12 := (W.out.alloc hsw _).grown hgr (by simp; omega) (fun k hk => (own_lt HO8.out k hk).1)
          have hap : ∀ b, v7.ownBlock = some b → v8'.ownBlock ≠ some b := by
            intro b hb e
            rcases hat with h | h
            · rw [h] at e
              exact AP.out b hb e
            · rw [h] at e
              injection e with e
              have := (own_lt HO7.out b hb).2
              first | omega | (simp at e; omega)
          have hbq : Box w12 qg 33 #[.slice (some ⟨ba, oa, none⟩) n ka, .slice (some ⟨bb, ob, none⟩) n kb, .slice (some ⟨bc_, oc, none⟩) n kc] := (BQg.out.alloc _).grown hgr (fun e => by
            have h1 := (own_lt HO8.out qg e.symm)
            exact AQ.out.2 (by rw [← e]))
          have haq : v7.ownBlock ≠ some qg ∧ v8'.ownBlock ≠ some qg := ⟨AQ.out.1, fun e => by
            rcases hat with h | h
            · exact AQ.out.2 (by rw [← h]; exact e)
            · rw [h] at e
              injection e with e
              have := BQg.out.lt
              first | omega | (simp at e; omega)⟩
          have HREL := Lib.hid (And.intro h7 (And.intro h8 (And.intro hap (And.intro haq (And.intro hbq hbw)))))
          obtain ⟨x8, k8, rfl, -⟩ := own_at hown
          clear hown hgr hat h7 h8 hsw hbw hap hbq haq
          go_wp2_with fail
          go_roundw
          case rel => exact ⟨i + 1, by omega, by first | rfl | go_num, HREL.out⟩
          case measure => simp [intOf]; omega
      · have HEV := Lib.hid (show evT g l i = -1 from by unfold evT; rw [HT.out, if_pos rfl])
        have h7 : OwnI wr w.heap.size u7 (evF l (i + 1)) := by
          have h := HO7.out
          rw [show evF l (i + 1) = evF l i from by rw [evF_succ, HT.out, if_pos rfl, List.append_nil]]
          exact h
        replace HO7 := Lib.hid h7
        clear h7
        go_upto_region 20 with (fail)
        clear ctp
        go_wp2_with (at_builtin; refine wpl_append elInt rfl (.tmp 93) (.tmp 95) rfl rfl (own_grown HO8.out (World.grownBy_alloc _ _ none)) rfl (row_one _ _ _) ?_ ?_ ?_ ?_ ?_)
        · intro u hu; simp at hu; subst hu; rfl
        · simp; omega
        · simp; omega
        · have := W.out.size; simp; omega
        intro v8' w9 hown hgr hat
        have h7 : OwnI w9 w.heap.size u7 (evF l (i + 1)) := own_kept (own_grown HO7.out (World.grownBy_alloc _ _ none)) hgr (by
          cases h : u7.ownBlock with
          | none => exact .inl rfl
          | some b => exact .inr fun e => AP.out b h e.symm)
        have h8 : OwnI w9 w.heap.size v8' ((List.range (i + 1)).map (evT g l)) := by
          unfold OwnI
          rw [List.range_succ, List.map_append, List.length_append, List.map_append, List.length_map, List.length_range]
          have e : ([i].map (evT g l)).map (Value.int .i64) = [.int .i64 (-1)] := by
            show [Value.int .i64 (evT g l i)] = _
            rw [HEV.out]
          rw [e]
          simpa using hown
        have hsw := W.out.size
        have hbw : Below w.heap.size w w9 := (W.out.alloc hsw _).grown hgr (by simp; omega) (fun k hk => (own_lt HO8.out k hk).1)
        have hap : ∀ b, u7.ownBlock = some b → v8'.ownBlock ≠ some b := by
          intro b hb e
          rcases hat with h | h
          · rw [h] at e
            exact AP.out b hb e
          · rw [h] at e
            injection e with e
            have := (own_lt HO7.out b hb).2
            first | omega | (simp at e; omega)
        have hbq : Box w9 qg 33 #[.slice (some ⟨ba, oa, none⟩) n ka, .slice (some ⟨bb, ob, none⟩) n kb, .slice (some ⟨bc_, oc, none⟩) n kc] := (BQg.out.alloc _).grown hgr (fun e => by
          have h1 := (own_lt HO8.out qg e.symm)
          exact AQ.out.2 (by rw [← e]))
        have haq : u7.ownBlock ≠ some qg ∧ v8'.ownBlock ≠ some qg := ⟨AQ.out.1, fun e => by
          rcases hat with h | h
          · exact AQ.out.2 (by rw [← h]; exact e)
          · rw [h] at e
            injection e with e
            have := BQg.out.lt
            first | omega | (simp at e; omega)⟩
        have HREL := Lib.hid (And.intro h7 (And.intro h8 (And.intro hap (And.intro haq (And.intro hbq hbw)))))
        obtain ⟨x8, k8, rfl, -⟩ := own_at hown
        clear hown hgr hat h7 h8 hsw hbw hap hbq haq
        go_wp2_with fail
        go_roundw
        case rel => exact ⟨i + 1, by omega, by first | rfl | go_num, HREL.out⟩
        case measure => simp [intOf]; omega
    · have fi : decide ((i : Int) < (n : Int)) = false := decide_eq_false (by omega)
      have hin : i = n := by omega
      have HE7 := Lib.hid (show OwnI wr w.heap.size u7 (evF l l.length) from by have h := HO7.out; rw [hin, ← HLN.out] at h; exact h)
      have HE8 := Lib.hid (show OwnI wr w.heap.size u8 ((List.range l.length).map (evT g l)) from by have h := HO8.out; rw [hin, ← HLN.out] at h; exact h)
      clear hin
      go_wp2_with fail
      refine bodyPost_ret (v := .tuple #[u7, u8]) (by simp [results, Try.results28, go_sem]) rfl ⟨_, _, rfl, HE7.out, HE8.out, W.out⟩
theorem reven_any (g : P.G) (l : List P.Tup) (hlow : ∀ j k, k < 4 → -9223372036854775808 ≤ ct (l.getD j .zero) k) (v vl : Value) (w : World) (hv : GameV w v g) (hV : TupsV w vl l) : Calls Try.prog 28 #[v, vl] w (REvenV w g l) := by
  cases hf : fits g l
  · exact reven_bad g l v vl w hv hV hf
  · have h := hf
    unfold fits at h
    rw [Bool.and_eq_true, decide_eq_true_eq, P.G.ok_iff] at h
    refine (reven_good g h.1 l h.2 hlow v vl w hv hV).mono ?_
    rintro e w' ⟨v1, v2, rfl, h1, h2, hb⟩
    refine ⟨v1, v2, rfl, ?_, ?_, hb⟩
    · unfold evR; rw [if_pos hf]; exact h1
    · unfold evM; rw [if_pos hf]; exact h2
theorem even_any (g : P.G) (l : List P.Tup) (hlow : ∀ j k, k < 4 → -9223372036854775808 ≤ ct (l.getD j .zero) k) (v vl : Value) (w : World) (hv : GameV w v g) (hV : TupsV w vl l) : Calls Try.prog 27 #[v, vl] w (REvenV w g l) := by
  cases hf : fits g l
  · refine (even_bad g l v vl w hv hV hf).mono ?_
    rintro e w' ⟨rfl, hb⟩
    refine ⟨_, _, rfl, ?_, ?_, hb⟩
    · unfold evR; rw [if_neg (by rw [hf]; simp)]; exact OwnI.nil _ _
    · unfold evM; rw [if_neg (by rw [hf]; simp)]; exact OwnI.nil _ _
  · have h := hf
    unfold fits at h
    rw [Bool.and_eq_true, decide_eq_true_eq, P.G.ok_iff] at h
    refine (even_good g h.1 l h.2 hlow v vl w hv hV).mono ?_
    rintro e w' ⟨v1, v2, rfl, h1, h2, hb⟩
    refine ⟨v1, v2, rfl, ?_, ?_, hb⟩
    · unfold evR; rw [if_pos hf]; exact h1
    · unfold evM; rw [if_pos hf]; exact h2
end W
end Go.Proofs.Yteeaojciobmcaaa
