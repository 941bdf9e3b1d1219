/- ScanAll: every text's tokens, or where and why not; what comes out is its owner's. -/
import Derived.Test.YtbimjejidlohnaaDoorUpTo
import Derived.Test.YtbimjejidlohnaaDoorRAll
import Derived.Test.YtbimjejidlohnaaDoorSame
import Derived.OwnWalk
import Derived.Laws.OwnMore
namespace Go.Proofs.YtbimjejidlohnaaDoor
open Go.RowKit
namespace W

def cells9 : Array Value := #[.int .i64 9, .int .i64 0, .string ⟨#[]⟩, .int .i64 0, .int .i64 9, .int .i64 0, .string ⟨#[]⟩, .int .i64 0]
theorem cells9_news (w : World) : ∀ j u, cells9.toList[j]? = some u → (w.alloc (.cells cells9 35)).cell? (({ block := w.heap.size, off := 0 } : Addr).add j) = some u := by
  intro j u h
  have hn := heap_alloc_new w (.cells cells9 35)
  have he : (({ block := w.heap.size, off := 0 } : Addr).add j) = ⟨w.heap.size, j, none⟩ := by simp [Addr.add]; exact Eq.symm
  rw [he, cell_of_row _ _ j _ _ (0, 0) hn, ← h]
  simp
theorem cells9_one : ∀ u ∈ cells9.toList, u.oneCell' = true := by
  intro u h
  simp only [cells9, List.mem_cons, List.not_mem_nil, or_false] at h
  rcases h with rfl | rfl | rfl | rfl | rfl | rfl | rfl | rfl <;> rfl
theorem shift0 (l : List P.Tok) : l.map (shift 0) = l := by
  have : shift 0 = id := by funext t; cases t; rfl
  rw [this, List.map_id]
theorem Toks.keep {w w' : World} {g : Nat} {l : List P.Tok} (h : Toks w g l) (he : w'.heap[g]? = w.heap[g]?) (hs : w.heap.size ≤ w'.heap.size) : Toks w' g l :=
  ⟨Nat.lt_of_lt_of_le h.lt hs, fun i t ht j v hv => by rw [World.cell?_of_block (w := w) (w' := w') (a := ⟨g, i * 4 + j, none⟩) he]; exact h.c i t ht j v hv⟩

set_option maxRecDepth 100000 in
set_option maxHeartbeats 1000000 in
theorem lawall_bad (b : ByteArray) (hb : b.size ≤ 140737488351232) (k er : Nat) (hs : P.scanAll b = .error (k, er)) (w : World) (hg : Handle w) : Calls Tryd.prog 3 #[.string b] w fun e w' => e = .returned (.bool true) ∧ Below w.heap.size w w' := by
  obtain ⟨i0, hi, hz0, hz1, hz2⟩ := info_parts tok_info
  have HI1 := Lib.hid hi
  have HI2 := Lib.hid hz0
  have HI3 := Lib.hid hz1
  have HI4 := Lib.hid hz2
  clear hi hz0 hz1 hz2
  go_enter Tryd.func3, Tryd.ntmps3
  go_wp2_with fail
  refine (shown_any _ hg).mono ?_
  rintro e w1 ⟨rfl, hb1⟩
  have HB1 := Lib.hid hb1
  clear hb1
  go_wp2_with fail
  refine (all_bad hs (by omega) _).mono ?_
  rintro e w2 ⟨g, rfl, hf, hb2⟩
  have HB2 := Lib.hid (HB1.out.trans (hb2.mono HB1.out.size))
  have HF := Lib.hid hf
  clear hf hb2
  go_wp2_with fail
  refine (all_bad hs (by omega) _).mono ?_
  rintro e w3 ⟨g2, rfl, _, hb3⟩
  have HB3 := Lib.hid (HB2.out.trans (hb3.mono HB2.out.size))
  have HF3 := Lib.hid (HF.out.on hb3)
  clear hb3
  go_wp2_with fail
  refine (rall_any b (by omega) _).mono ?_
  rw [hs]
  rintro e w4 ⟨he4, hb4⟩
  have he4 : e = .returned (.tuple #[.slice none 0 0, .int .i64 ((k : Nat) : Int), .int .i64 ((er : Nat) : Int)]) := he4
  subst he4
  have HB4 := Lib.hid (HB3.out.trans (hb4.mono HB3.out.size))
  have HF4 := Lib.hid (HF3.out.on hb4)
  have HS := Lib.hid hs
  clear hb4 hs
  go_wp2_with fail
  refine (fault_at g k er _ HF4.out (hg.on HB4.out)).mono ?_
  rintro e w5 ⟨rfl, hb5⟩
  have HB5 := Lib.hid (HB4.out.trans (hb5.mono HB4.out.size))
  clear hb5
  go_wp2_with fail
  refine (same_true [] 0 _ _ _ (View.nil _ _ _) (View.nil _ _ _) (Nat.zero_le _) (by simp)).mono ?_
  rintro e w6 ⟨rfl, hb6⟩
  have HB6 := Lib.hid (HB5.out.trans (hb6.mono HB5.out.size))
  clear hb6
  go_wp2_with fail
  go_loopw [14] (fun i wr => i = .int .i64 0 ∧ wr = w6) (fun _ _ => 0)
  case atStart => exact ⟨rfl, rfl⟩
  case round =>
    obtain ⟨rfl, rfl⟩ := hrel
    go_wp2_with (at_builtin; refine wpList_append_own _ rfl _ _ 23 rfl w.heap.size 35 i0 (tokV nil) 4 40 Tryd.underlying23 HI1.out HI2.out HI3.out HI4.out rfl (by decide) _ _ _ rfl (World.ownsRow_nil _ _ _ _) ⟨wr.heap.size, 0, none⟩ 2 2 cells9.toList rfl rfl ?d1 ?d2 ?d3 ?d4 ?d5 ?_)
    · exact cells9_news wr
    · exact cells9_one
    · have : maxLen = 9223372036854775807 := rfl
      omega
    · omega
    · have := HB6.out.size
      simp; omega
    · intro v' w7 hown hgrow _
      have hb7 := (HB6.out.alloc HB6.out.size _).grown hgrow (by have := HB6.out.size; simp; omega) (fun j hj => by cases hj)
      obtain ⟨gv, cv, rfl⟩ : ∃ gv cv, v' = .slice (some ⟨gv, 0, none⟩) (0 + 2) cv := by
        rcases hown.2 with ⟨_, h⟩ | ⟨g, cap, _, h, _⟩
        · cases h
        · exact ⟨g, cap, h⟩
      have HB7 := Lib.hid hb7
      clear hb7 hown hgrow
      go_wp2_with fail
      refine (same_true [] 0 _ _ _ (View.nil _ _ _) (View.nil _ _ _) (Nat.zero_le _) (by simp)).mono ?_
      rintro e w8 ⟨rfl, hb8⟩
      have HB8 := Lib.hid (HB7.out.trans (hb8.mono HB7.out.size))
      clear hb8
      go_wp2_with fail
      go_ret
      exact ⟨rfl, HB8.out⟩

set_option maxRecDepth 100000 in
set_option maxHeartbeats 1000000 in
theorem lawall_ok (b : ByteArray) (hb : b.size ≤ 140737488351232) (l : List P.Tok) (hs : P.scanAll b = .ok l) (w : World) (hg : Handle w) : Calls Tryd.prog 3 #[.string b] w fun e w' => e = .returned (.bool true) ∧ Below w.heap.size w w' := by
  have hlen := P.scanAll_len hs
  have hpos := scanAll_ne hs
  have hplace : ∀ t ∈ l, t.place + 0 ≤ 1152921504606846976 := fun t ht => by
    obtain ⟨i, hi⟩ := List.getElem?_of_mem ht
    have := (P.scanAll_cut hs hi).2.1
    omega
  obtain ⟨i0, hi, hz0, hz1, hz2⟩ := info_parts tok_info
  have HI1 := Lib.hid hi
  have HI2 := Lib.hid hz0
  have HI3 := Lib.hid hz1
  have HI4 := Lib.hid hz2
  clear hi hz0 hz1 hz2
  go_enter Tryd.func3, Tryd.ntmps3
  go_wp2_with fail
  refine (shown_any _ hg).mono ?_
  rintro e w1 ⟨rfl, hb1⟩
  have HB1 := Lib.hid hb1
  clear hb1
  go_wp2_with fail
  refine (all_any b (by omega) _).mono ?_
  rw [hs]
  rintro e w2 ⟨⟨va, rfl, hown⟩, hb2⟩
  obtain ⟨n, hn⟩ : ∃ n, l.length = n := ⟨_, rfl⟩
  obtain ⟨ga, capa, cur, rfl, hga, hblk, hnc, hcm, hcs, htk⟩ := hown.2.resolve_left (fun e => by omega)
  have HTA := Lib.hid (slice_of hown hpos)
  have HB2 := Lib.hid (HB1.out.trans (hb2.mono HB1.out.size))
  have HGA := Lib.hid (Nat.le_trans HB1.out.size hga)
  have HBLK := Lib.hid hblk
  have HCS := Lib.hid hcs
  have HCM := Lib.hid hcm
  have HLT := Lib.hid (lt_of_block hblk)
  have hta : Toks w2 ga l := by
    obtain ⟨g', c', e', _, _, _, ht'⟩ := HTA.out
    have e2 : ga = g' := by
      simp only [Value.slice.injEq, Option.some.injEq, Addr.mk.injEq] at e'
      exact e'.1.1
    rw [e2]
    exact ht'
  have HTT := Lib.hid hta
  have HNC := Lib.hid hnc
  clear hb2 hown hblk htk hga hcs hcm hta HTA hnc
  go_wp2_with fail
  refine (all_ok hs (by omega) _).mono ?_
  rintro e w3 ⟨gb, capb, rfl, hgb, _, htb, hb3⟩
  have HB3 := Lib.hid (HB2.out.trans (hb3.mono HB2.out.size))
  have HTB := Lib.hid htb
  have HBLK3 := Lib.hid ((hb3.block ga HLT.out).trans HBLK.out)
  have HTT3 := Lib.hid (HTT.out.on hb3)
  have hab : gb ≠ ga := by have := HLT.out; omega
  clear hb3 htb
  go_wp2_with fail
  refine (rall_any b (by omega) _).mono ?_
  rw [hs]
  rintro e w4 ⟨⟨vl, he4, hownl⟩, hb4⟩
  subst he4
  obtain ⟨gl, capl, rfl, hgl, _, _, htl⟩ := slice_of hownl hpos
  have HB4 := Lib.hid (HB3.out.trans (hb4.mono HB3.out.size))
  have HTB4 := Lib.hid (HTB.out.on hb4)
  have HTT4 := Lib.hid (HTT3.out.on hb4)
  have HTL := Lib.hid htl
  have HBLK4 := Lib.hid ((hb4.block ga (lt_of_block HBLK3.out)).trans HBLK3.out)
  have hal : gl ≠ ga := by have := lt_of_block HBLK3.out; omega
  have HS := Lib.hid hs
  have hLa := hn
  rw [hn] at hlen hpos ⊢
  have hn1 := hlen.1
  have hn2 := hlen.2
  have HN := Lib.hid hn
  have HPL := Lib.hid hplace
  clear hb4 hs htl hownl hn hLa hlen hplace
  go_wp2_with fail
  refine (fault_nil _).mono ?_
  rintro e w5 ⟨rfl, h5⟩
  obtain rfl : w4 = w5 := h5.symm
  go_wp2_with fail
  have v1 : View w4 (.slice (some ⟨ga, 0, none⟩) n capa) l := by rw [← HN.out]; exact View.of HTT4.out
  have v2 : View w4 (.slice (some ⟨gl, 0, none⟩) n capl) (l.map (shift 0)) := by rw [shift0, ← HN.out]; exact View.of HTL.out
  refine (same_true l 0 _ _ _ v1 v2 (by rw [HN.out]; omega) HPL.out).mono ?_
  clear v1 v2
  rintro e w6 ⟨rfl, hb6⟩
  have HB6 := Lib.hid (HB4.out.trans (hb6.mono HB4.out.size))
  have HTB6 := Lib.hid (HTB4.out.on hb6)
  have HTL6 := Lib.hid (HTL.out.on hb6)
  have HBLK6 := Lib.hid ((hb6.block ga (lt_of_block HBLK4.out)).trans HBLK4.out)
  clear hb6
  go_wp2_with fail
  go_loopw [14] (fun i wr => ∃ j : Nat, j ≤ n ∧ i = .int .i64 j ∧ (∃ c, wr.heap[ga]? = some (.cells c 35 (0, 0)) ∧ c.size = capa * 4) ∧ (∀ g, g ≠ ga → wr.heap[g]? = w6.heap[g]?) ∧ wr.heap.size = w6.heap.size ∧ Below w.heap.size w wr) (fun i _ => n - (intOf i).toNat)
  case atStart => exact ⟨0, Nat.zero_le _, rfl, ⟨cur, HBLK6.out, HCS.out⟩, fun _ _ => rfl, rfl, HB6.out⟩
  case round =>
    obtain ⟨j, hj, rfl, ⟨c, hc, hcz⟩, hoth, hsz, hbw⟩ := hrel
    have HC := Lib.hid hc
    have HO := Lib.hid hoth
    have HZ := Lib.hid hsz
    have HW := Lib.hid hbw
    clear hoth hsz hbw hc
    have hj0 : (0 : Int) ≤ (j : Int) := Int.natCast_nonneg _
    by_cases hlt : j < n
    · have hcap : n ≤ capa := by have := HNC.out; rw [HN.out] at this; exact this
      obtain ⟨x0, a0⟩ : ∃ x, wr.cell? ⟨ga, j * 4, none⟩ = some x := ⟨c[j * 4]'(by omega), by rw [cell_of_row wr ga _ _ _ _ HC.out]; exact Array.getElem?_eq_getElem _⟩
      obtain ⟨x1, a1⟩ : ∃ x, wr.cell? ⟨ga, j * 4 + 1, none⟩ = some x := ⟨c[j * 4 + 1]'(by omega), by rw [cell_of_row wr ga _ _ _ _ HC.out]; exact Array.getElem?_eq_getElem _⟩
      obtain ⟨x2, a2⟩ : ∃ x, wr.cell? ⟨ga, j * 4 + 2, none⟩ = some x := ⟨c[j * 4 + 2]'(by omega), by rw [cell_of_row wr ga _ _ _ _ HC.out]; exact Array.getElem?_eq_getElem _⟩
      obtain ⟨x3, a3⟩ : ∃ x, wr.cell? ⟨ga, j * 4 + 3, none⟩ = some x := ⟨c[j * 4 + 3]'(by omega), by rw [cell_of_row wr ga _ _ _ _ HC.out]; exact Array.getElem?_eq_getElem _⟩
      have f0 := frozen_of_row wr ga (j * 4) _ _ HC.out
      have f1 := frozen_of_row wr ga (j * 4 + 1) _ _ HC.out
      have f2 := frozen_of_row wr ga (j * 4 + 2) _ _ HC.out
      have f3 := frozen_of_row wr ga (j * 4 + 3) _ _ HC.out
      have i1 : (j : Int) < (n : Int) := by omega
      clear hcap
      go_wp2_with fail
      go_roundw
      case rel =>
        have h0 := heap_setCell_same wr ga (j * 4) c _ (.int .i64 9) HC.out
        have h1 := heap_setCell_same _ ga (j * 4 + 1) _ _ (.int .i64 0) h0
        have h2 := heap_setCell_same _ ga (j * 4 + 2) _ _ (.string ⟨#[]⟩) h1
        have h3 := heap_setCell_same _ ga (j * 4 + 3) _ _ (.int .i64 0) h2
        refine ⟨j + 1, by omega, by go_num, ⟨_, h3, by simp [hcz]⟩, fun g hg => ?_, by simp [World.setCell, HZ.out], (((HW.out.setCell HGA.out _).setCell HGA.out _).setCell HGA.out _).setCell HGA.out _⟩
        rw [heap_setCell_other _ _ _ _ hg, heap_setCell_other _ _ _ _ hg, heap_setCell_other _ _ _ _ hg, heap_setCell_other _ _ _ _ hg]
        exact HO.out g hg
      case measure => simp [intOf]; omega
    · obtain rfl : j = n := by omega
      have hcap : j ≤ capa := by have := HNC.out; rw [HN.out] at this; exact this
      have hown0 : wr.ownsRow w.heap.size 35 4 (.slice (some ⟨ga, 0, none⟩) j capa) j (c.toList.take (j * 4)) :=
        ⟨by rw [List.length_take]; simp only [Array.length_toList]; omega, .inr ⟨ga, capa, c, rfl, HGA.out, HC.out, hcap, HCM.out, hcz, rfl⟩⟩
      have HOWN := Lib.hid hown0
      clear hown0 hcap hcz
      go_wp2_with (at_builtin; refine wpList_append_own _ rfl _ _ 23 rfl w.heap.size 35 i0 (tokV nil) 4 40 Tryd.underlying23 HI1.out HI2.out HI3.out HI4.out rfl (by decide) _ _ _ rfl (HOWN.out.alloc _) ⟨wr.heap.size, 0, none⟩ 2 2 cells9.toList rfl rfl ?d1 ?d2 ?d3 ?d4 ?d5 ?_)
      · exact cells9_news wr
      · exact cells9_one
      · have : maxLen = 9223372036854775807 := rfl
        omega
      · omega
      · have := HW.out.size
        simp; omega
      · intro v' w7 hown hgrow _
        have hlt2 := HOWN.out.lt
        have hb7 := (HW.out.alloc HW.out.size _).grown hgrow (by have := HW.out.size; simp; omega) (fun x hx => (hlt2 x hx).1)
        have hkeep : ∀ g, g < w6.heap.size → g ≠ ga → w7.heap[g]? = w6.heap[g]? := fun g h1 h2 => by
          have e1 := HZ.out
          rw [hgrow.block g (by simp; omega) (fun e => h2 (by simpa [Value.ownBlock] using e))]
          rw [((Below.refl wr.heap.size wr).alloc (Nat.le_refl _) _).block g (by omega)]
          exact HO.out g h2
        have hs7 : w6.heap.size ≤ w7.heap.size := by
          have e1 := HZ.out
          have e2 := hgrow.size
          simp at e2
          omega
        have tb7 : Toks w7 gb l := HTB6.out.keep (hkeep gb HTB6.out.lt hab) hs7
        have tl7 : Toks w7 gl l := HTL6.out.keep (hkeep gl HTL6.out.lt hal) hs7
        obtain ⟨gv, cv, rfl⟩ : ∃ gv cv, v' = .slice (some ⟨gv, 0, none⟩) (j + 2) cv := by
          rcases hown.2 with ⟨_, h⟩ | ⟨g, cap, _, h, _⟩
          · cases h
          · exact ⟨g, cap, h⟩
        have HB7 := Lib.hid hb7
        have TB7 := Lib.hid tb7
        have TL7 := Lib.hid tl7
        clear hb7 hown hgrow hkeep hs7 tb7 tl7 hlt2
        go_wp2_with fail
        have v1 : View w7 (.slice (some ⟨gb, 0, none⟩) j capb) l := by rw [← HN.out]; exact View.of TB7.out
        have v2 : View w7 (.slice (some ⟨gl, 0, none⟩) j capl) (l.map (shift 0)) := by rw [shift0, ← HN.out]; exact View.of TL7.out
        refine (same_true l 0 _ _ _ v1 v2 (by rw [HN.out]; omega) HPL.out).mono ?_
        clear v1 v2
        rintro e w8 ⟨rfl, hb8⟩
        have HB8 := Lib.hid (HB7.out.trans (hb8.mono HB7.out.size))
        clear hb8
        go_wp2_with fail
        go_ret
        exact ⟨rfl, HB8.out⟩
theorem lawall_any (b : ByteArray) (hb : b.size ≤ 140737488351232) (w : World) (hg : Handle w) : Calls Tryd.prog 3 #[.string b] w fun e w' => e = .returned (.bool true) ∧ Below w.heap.size w w' := by
  cases hs : P.scanAll b with
  | ok l => exact lawall_ok b hb l hs w hg
  | error x =>
    obtain ⟨k, er⟩ := x
    exact lawall_bad b hb k er hs w hg
end W
end Go.Proofs.YtbimjejidlohnaaDoor
