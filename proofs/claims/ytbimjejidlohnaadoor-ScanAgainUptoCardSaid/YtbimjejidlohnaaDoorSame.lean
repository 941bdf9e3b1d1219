/- Two lists of tokens that are the same. -/
import Derived.Test.YtbimjejidlohnaaDoorShown
import Derived.Deep.QuietTactic
import Derived.BigQuiet
import Derived.Laws.BitsLemmas
namespace Go.Proofs.YtbimjejidlohnaaDoor
open Go.RowKit
namespace W

/-- A slice of tokens, wherever it begins. -/
def View (w : World) (v : Value) (l : List P.Tok) : Prop := ∃ ao cap, v = .slice ao l.length cap ∧ (l = [] ∨ ∃ g o, ao = some ⟨g, o, none⟩ ∧ g < w.heap.size ∧ ∀ i t, l[i]? = some t → ∀ j u, (tokCells t)[j]? = some u → w.cell? ⟨g, o + i * 4 + j, none⟩ = some u)
theorem View.on {w w' : World} {v : Value} {l : List P.Tok} (h : View w v l) (hb : Below w.heap.size w w') : View w' v l := by
  obtain ⟨ao, cap, rfl, h2⟩ := h
  refine ⟨ao, cap, rfl, ?_⟩
  rcases h2 with h2 | ⟨g, o, h3, h4, h5⟩
  · exact .inl h2
  · exact .inr ⟨g, o, h3, Nat.lt_of_lt_of_le h4 hb.size, fun i t ht j u hu => by rw [hb.cell (p := ⟨g, o + i * 4 + j, none⟩) h4]; exact h5 i t ht j u hu⟩
theorem View.nil (w : World) (cap : Nat) (ao : Option Addr) : View w (.slice ao 0 cap) [] := ⟨ao, cap, rfl, .inl rfl⟩
theorem View.of {w : World} {g cap : Nat} {l : List P.Tok} (h : Toks w g l) : View w (.slice (some ⟨g, 0, none⟩) l.length cap) l :=
  ⟨_, cap, rfl, .inr ⟨g, 0, rfl, h.lt, fun i t ht j u hu => by rw [Nat.zero_add]; exact h.c i t ht j u hu⟩⟩
def shift (d : Nat) (t : P.Tok) : P.Tok := ⟨t.kind, t.place + d, t.text, t.number⟩
theorem map_shift0 (l : List P.Tok) : l.map (shift 0) = l := by
  have : shift 0 = id := by funext t; cases t; rfl
  rw [this, List.map_id]
theorem wrap_in' {x : Int} (h1 : -9223372036854775808 ≤ x) (h2 : x ≤ 9223372036854775807) : IntKind.i64.wrap x = x := by
  rw [IntKind.wrap_i64]
  omega
set_option maxRecDepth 100000 in
set_option maxHeartbeats 800000 in
theorem same_true (la : List P.Tok) (d : Nat) (va vb : Value) (w : World) (ha : View w va la) (hb : View w vb (la.map (shift d))) (hn : la.length ≤ 281474976710656) (hp : ∀ t ∈ la, t.place + d ≤ 1152921504606846976) :
    Calls Tryd.prog 15 #[va, vb, .int .i64 (d : Int)] w fun e w' => e = .returned (.bool true) ∧ Below w.heap.size w w' := by
  obtain ⟨aoa, capa, rfl, ha2⟩ := ha
  obtain ⟨aob, capb, rfl, hb2⟩ := hb
  rw [List.length_map]
  obtain ⟨n, hnn⟩ : ∃ n, la.length = n := ⟨_, rfl⟩
  rw [hnn] at hn ⊢
  have HN := Lib.hid hnn
  have HA := Lib.hid ha2
  have HB := Lib.hid hb2
  have HP := Lib.hid hp
  clear hnn ha2 hb2 hp
  go_enter Tryd.func15, Tryd.ntmps15
  go_wp2_with fail
  go_loopw [7] (fun i wr => ∃ j : Nat, j ≤ n ∧ i = .int .i64 j ∧ Below w.heap.size w wr) (fun i _ => n - (intOf i).toNat)
  case atStart => exact ⟨0, Nat.zero_le _, rfl, Below.refl _ _⟩
  case round =>
    obtain ⟨j, hj, rfl, hbw⟩ := hrel
    have HW := Lib.hid hbw
    clear hbw
    have hj0 : (0 : Int) ≤ (j : Int) := Int.natCast_nonneg _
    by_cases hlt : j < n
    · have hjl : j < la.length := by rw [HN.out]; exact hlt
      obtain ⟨t, ht⟩ : ∃ t, la[j]? = some t := ⟨la[j], by simp [hjl]⟩
      have hs : (la.map (shift d))[j]? = some (shift d t) := by rw [List.getElem?_map, ht]; rfl
      have htm : t ∈ la := List.mem_of_getElem? ht
      have hpl := HP.out t htm
      obtain ⟨ga, oa, rfl, hga, hca⟩ : ∃ g o, aoa = some ⟨g, o, none⟩ ∧ g < w.heap.size ∧ _ := HA.out.resolve_left (fun e => by rw [e] at ht; simp at ht)
      obtain ⟨gb, ob, rfl, hgb, hcb⟩ : ∃ g o, aob = some ⟨g, o, none⟩ ∧ g < w.heap.size ∧ _ := HB.out.resolve_left (fun e => by rw [e] at hs; simp at hs)
      have a0 : wr.cell? ⟨ga, oa + j * 4, none⟩ = some (.int .i64 ((t.kind : Nat) : Int)) := (HW.out.cell (p := ⟨ga, oa + j * 4 + 0, none⟩) hga).trans (hca j t ht 0 _ rfl)
      have a1 : wr.cell? ⟨ga, oa + j * 4 + 1, none⟩ = some (.int .i64 ((t.place : Nat) : Int)) := (HW.out.cell (p := ⟨ga, oa + j * 4 + 1, none⟩) hga).trans (hca j t ht 1 _ rfl)
      have a2 : wr.cell? ⟨ga, oa + j * 4 + 2, none⟩ = some (.string t.text) := (HW.out.cell (p := ⟨ga, oa + j * 4 + 2, none⟩) hga).trans (hca j t ht 2 _ rfl)
      have a3 : wr.cell? ⟨ga, oa + j * 4 + 3, none⟩ = some (.int .i64 ((t.number : Nat) : Int)) := (HW.out.cell (p := ⟨ga, oa + j * 4 + 3, none⟩) hga).trans (hca j t ht 3 _ rfl)
      have b0 : wr.cell? ⟨gb, ob + j * 4, none⟩ = some (.int .i64 ((t.kind : Nat) : Int)) := (HW.out.cell (p := ⟨gb, ob + j * 4 + 0, none⟩) hgb).trans (hcb j _ hs 0 _ rfl)
      have b1 : wr.cell? ⟨gb, ob + j * 4 + 1, none⟩ = some (.int .i64 (((t.place : Nat) : Int) + (d : Int))) := ((HW.out.cell (p := ⟨gb, ob + j * 4 + 1, none⟩) hgb).trans (hcb j _ hs 1 _ rfl)).trans (by show some (Value.int .i64 ((t.place + d : Nat) : Int)) = _; rw [Int.natCast_add])
      have b2 : wr.cell? ⟨gb, ob + j * 4 + 2, none⟩ = some (.string t.text) := (HW.out.cell (p := ⟨gb, ob + j * 4 + 2, none⟩) hgb).trans (hcb j _ hs 2 _ rfl)
      have b3 : wr.cell? ⟨gb, ob + j * 4 + 3, none⟩ = some (.int .i64 ((t.number : Nat) : Int)) := (HW.out.cell (p := ⟨gb, ob + j * 4 + 3, none⟩) hgb).trans (hcb j _ hs 3 _ rfl)
      have lga : ga < wr.heap.size := Nat.lt_of_lt_of_le hga HW.out.size
      have lgb : gb < wr.heap.size := Nat.lt_of_lt_of_le hgb HW.out.size
      have i1 : (j : Int) < (n : Int) := by omega
      have hwr : IntKind.i64.wrap (((t.place : Nat) : Int) + (d : Int)) = ((t.place : Nat) : Int) + (d : Int) := wrap_in' (by omega) (by omega)
      clear hca hcb ht hs htm hjl
      go_wp2_with fail
      go_quiet (fail)
      go_wp2_with fail
      go_roundw
      case rel => exact ⟨j + 1, by omega, by go_num, below_drewN (HW.out.alloc HW.out.size _) _⟩
      case measure => simp [intOf]; omega
    · go_wp2_with fail
      go_ret
      exact ⟨rfl, HW.out⟩
end W
end Go.Proofs.YtbimjejidlohnaaDoor
