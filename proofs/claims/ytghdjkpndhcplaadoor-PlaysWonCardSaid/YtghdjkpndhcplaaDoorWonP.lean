/- What a play won says. Plain. -/
import Derived.Test.YtghdjkpndhcplaaDoorPlA
import Derived.Test.YtghdjkpndhcplaaDoorSvA
namespace Go.Proofs.YtghdjkpndhcplaaDoor
open Go.RowKit
namespace P
theorem play_won {g : G} (hr : g.Right) {n : Nat} (hn : g.owner.length = n) {p : Int} (hp : p = 0 ∨ p = 1) {L M s A B : List Int} {tp z : Int} {c : Nat} (hL : ∀ z ∈ L, 0 ≤ z ∧ z < (n : Int))
    (hW : WinsIn g (· < n) p (fun i => M.getD i 0) (fun i => (i : Int) ∈ L)) (hM : M.length = n) (hz : z ∈ L) (hs : s.length ≤ 64) (h : PlayP g z p M s A B tp c) : c = 0 ∧ tp = p ∧ (∀ x ∈ A, x ∈ L) ∧ ∀ x ∈ B, x ∈ L := by
  have hz2 := hL z hz
  have hf : fine g z p := ⟨(G.ok_iff g).2 hr, ⟨hz2.1, by rw [hn]; exact hz2.2⟩, hp⟩
  have hw : WinsIn g (· < n) p (fun i => M.getD i (-1)) (fun i => (i : Int) ∈ L) := hW.congr fun i hi _ => by
    have h1 := hL _ hi
    have h2 : i < M.length := by omega
    show M.getD i (-1) = M.getD i 0
    rw [List.getD_eq_getElem?_getD, List.getD_eq_getElem?_getD, List.getElem?_eq_getElem h2]
    rfl
  have hpos := scr_pos s
  have hi0 : ((z.toNat : Nat) : Int) ∈ L := by
    rw [show ((z.toNat : Nat) : Int) = z by omega]
    exact hz
  rcases h with ⟨h, -⟩ | ⟨-, h, -⟩ | ⟨-, -, ⟨l, t, i, h1, h2, rfl, rfl, rfl, rfl⟩ | ⟨l, t, h1, h2, -⟩⟩
  · exact absurd hf h
  · omega
  · have hil := (List.getElem?_eq_some_iff.1 h2).1
    have ht := (List.getElem?_eq_some_iff.1 h2).2
    have hd : l.drop i = t :: l.drop (i + 1) := by rw [List.drop_eq_getElem_cons hil, ht]
    have hl : l = l.take i ++ t :: l.drop (i + 1) := by rw [← hd, List.take_append_drop]
    have hch := h1.chain
    have hhd : l.head? = some (z.toNat, 0) := by
      have := h1.head
      cases l with
      | nil => exact absurd hil (Nat.not_lt_zero _)
      | cons a l => exact this
    rw [hl] at hch hhd
    obtain ⟨k1, k2⟩ := won_play hr hn hw hM hpos hi0 hch hhd
    refine ⟨rfl, by rw [hd]; exact k2, fun x hx => ?_, fun x hx => ?_⟩
    · obtain ⟨a, ha, rfl⟩ := List.mem_map.1 hx
      exact k1 a (List.mem_append_left _ ha)
    · obtain ⟨a, ha, rfl⟩ := List.mem_map.1 hx
      rw [hd] at ha
      exact k1 a (List.mem_append_right _ ha)
  · exfalso
    have own : ∀ i, i < n → ownMove M i = M.getD i (-1) := fun i hi => by
      unfold ownMove
      rw [if_pos (by omega), List.getD_eq_getElem?_getD, List.getD_eq_getElem?_getD, List.getElem?_eq_getElem (by omega)]
      rfl
    have hR := (Chain.all (fun a => (a.1 : Int) ∈ L ∧ a.2 < (scr s).length) (fun a b ha h => by
      have hin := hw.sub a.1 ha.1
      have k := stepS_in hr hn hpos ⟨hin, ha.2⟩ h
      exact ⟨hw.stays ha.1 ⟨k.2.1, k.1.1, fun ho => by rw [k.2.2 ho, own _ hin]⟩, k.1.2⟩) h1.chain (fun a ha => by
        have := h1.head
        cases l with
        | nil => cases ha
        | cons b l =>
          have e1 : b = a := by simpa using ha
          have e2 : b = (z.toNat, 0) := by simpa using this
          rw [← e1, e2]
          exact ⟨hi0, hpos⟩) (fun e => by
        have := h1.head
        rw [e] at this
        have e2 : t = (z.toNat, 0) := by simpa using this
        rw [e2]
        exact ⟨hi0, hpos⟩)).2
    unfold stepS at h2
    by_cases ho : g.owner.getD t.1 0 = p
    · obtain ⟨j, e, hj, -⟩ := hw.own t.1 hR.1 ho
      rw [if_pos ho, own _ (hw.sub _ hR.1), if_pos (by rw [show M.getD t.1 (-1) = (j : Int) from e.symm]; exact hj)] at h2
      cases h2
    · rw [if_neg ho] at h2
      cases h2
theorem within_of {L A B : List Int} (hA : ∀ x ∈ A, x ∈ L) (hB : ∀ x ∈ B, x ∈ L) : (ofL A ||| ofL B) ||| ofL L = ofL L := by
  apply BitVec.eq_of_getLsbD_eq
  intro i hi
  rw [BitVec.getLsbD_or, BitVec.getLsbD_or, getLsbD_ofL _ _ hi, getLsbD_ofL _ _ hi, getLsbD_ofL _ _ hi]
  by_cases h1 : (i : Int) ∈ A
  · simp [h1, hA _ h1]
  · by_cases h2 : (i : Int) ∈ B
    · simp [h2, hB _ h2]
    · simp [h1, h2]
end P
namespace W

theorem mem_lstI {S : BitVec 256} {i : Nat} : (i : Int) ∈ lstI S ↔ P.Bit S i := by
  unfold lstI
  rw [List.mem_map]
  constructor
  · rintro ⟨j, h1, h2⟩
    obtain rfl : j = i := by omega
    exact (P.mem_lst S j).1 h1
  · exact fun h => ⟨i, (P.mem_lst S i).2 h, rfl⟩
theorem dec_wins {g : P.G} (hr : g.Right) {n : Nat} (hn : g.owner.length = n) {X Y : BitVec 256} {c c1 : List Int} (h : P.Ap g 0 (P.full (n : Int)) X Y c c1) :
    ((∀ z ∈ lstI X, 0 ≤ z ∧ z < (n : Int)) ∧ P.WinsIn g (· < n) 0 (fun i => (P.rowOf n (mvF g 0 X c1)).getD i 0) (fun i => (i : Int) ∈ lstI X)) ∧ (∀ z ∈ lstI Y, 0 ≤ z ∧ z < (n : Int)) ∧ P.WinsIn g (· < n) 1 (fun i => (P.rowOf n (mvF g 1 Y c1)).getD i 0) (fun i => (i : Int) ∈ lstI Y) := by
  have hb := (P.full_bits hr hn).1
  have e : (1 : Int) - 0 = 1 := by decide
  have h2 := h.his
  rw [e] at h2
  have key : ∀ (p : Int) (S : BitVec 256), P.WinsIn g (P.Bit (P.full (n : Int))) p (fun i => c1.getD i (-1)) (P.Bit S) → (∀ z ∈ lstI S, 0 ≤ z ∧ z < (n : Int)) ∧ P.WinsIn g (· < n) p (fun i => (P.rowOf n (mvF g p S c1)).getD i 0) (fun i => (i : Int) ∈ lstI S) := fun p S hw => by
    refine ⟨fun z hz => ?_, (hw.congr fun i hi ho => ?_).iff hb fun i => mem_lstI.symm⟩
    · unfold lstI at hz
      obtain ⟨j, h1, rfl⟩ := List.mem_map.1 hz
      have := (hb j).1 (hw.sub j ((P.mem_lst S j).1 h1))
      omega
    · show (P.rowOf n (mvF g p S c1)).getD i 0 = c1.getD i (-1)
      rw [List.getD_eq_getElem?_getD, P.rowOf_at _ ((hb i).1 (hw.sub i hi))]
      show mvF g p S c1 i = _
      unfold mvF
      rw [if_pos ⟨hi, ho⟩]
  exact ⟨key 0 X h.mine, key 1 Y h2⟩

theorem ROWS.ints {w : World} {lo n : Nat} {g : P.G} {p : Int} {S : BitVec 256} {c : List Int} {r : Value} {b : Nat} (h : ROWS w lo n g p S c r b) : Ints w r (lstI S) := by
  have hl : (lstI S).length = (P.lst S).length := by unfold lstI; rw [List.length_map]
  refine OwnI.ints (lo := lo) ?_ ?_
  · unfold OwnI
    rw [hl]
    exact h.1
  · rw [hl]
    unfold P.lst
    exact Nat.le_trans (List.length_filter_le _ _) (by simp)
theorem lstI_len (S : BitVec 256) : (lstI S).length = (P.lst S).length := by unfold lstI; rw [List.length_map]
theorem lst_short (S : BitVec 256) : (P.lst S).length ≤ 256 := by unfold P.lst; exact Nat.le_trans (List.length_filter_le _ _) (by simp)

/-- A slice whose length is in its capacity. -/
def CapOk (v : Value) : Prop := match v with
  | .slice _ n c => n ≤ c
  | _ => False
/-- A list of lists that came in, each within its capacity. -/
def Scr (w : World) (v : Value) (ls : List (List Int)) : Prop := ∃ ao cap, v = .slice ao ls.length cap ∧ ls.length ≤ 5864062014634 ∧ (ls = [] ∨ ∃ b off, ao = some ⟨b, off, none⟩ ∧ b < w.heap.size ∧ ∀ j, j < ls.length → ∃ x, w.cell? ⟨b, off + j, none⟩ = some x ∧ Ints w x (ls.getD j []) ∧ CapOk x)
theorem Scr.on {w w' : World} {v : Value} {ls : List (List Int)} (h : Scr w v ls) (hb : Below w.heap.size w w') : Scr w' v ls := by
  obtain ⟨ao, cap, rfl, h1, h2⟩ := h
  refine ⟨ao, cap, rfl, h1, h2.imp id ?_⟩
  rintro ⟨b, off, rfl, h3, h4⟩
  refine ⟨b, off, rfl, Nat.lt_of_lt_of_le h3 hb.size, fun j hj => ?_⟩
  obtain ⟨x, h5, h6, h7⟩ := h4 j hj
  exact ⟨x, (hb.cell h3).trans h5, h6.on hb, h7⟩
theorem Scr.at_ {w : World} {so : Option Addr} {m sc : Nat} {ls : List (List Int)} (h : Scr w (.slice so m sc) ls) (hm : ls.length = m) {j : Nat} (hj : j < m) : ∃ b off os ns ks, so = some ⟨b, off, none⟩ ∧ w.cell? ⟨b, off + j, none⟩ = some (.slice os ns ks) ∧ Ints w (.slice os ns ks) (ls.getD j []) ∧ (ls.getD j []).length = ns ∧ ns ≤ ks := by
  obtain ⟨ao, cap, he, -, h2⟩ := h
  injection he with he _ _
  subst he
  rcases h2 with h2 | ⟨b, off, rfl, -, h4⟩
  · rw [h2] at hm
    have : m = 0 := hm.symm
    omega
  · obtain ⟨x, h5, h6, h7⟩ := h4 j (by omega)
    obtain ⟨os, ks, rfl, h8⟩ := id h6
    exact ⟨b, off, os, _, ks, rfl, h5, h6, rfl, h7⟩
/-- A claim's side: who follows its moves stays in its region and wins. -/
def SideW (g : P.G) (n : Nat) (w : World) (cs : Array Value) (p : Nat) : Prop :=
  ∃ L M rv mv, cs[p]? = some rv ∧ cs[2 + p]? = some mv ∧ Ints w rv L ∧ Ints w mv M ∧ M.length = n ∧ (∀ z ∈ L, 0 ≤ z ∧ z < (n : Int)) ∧ P.WinsIn g (· < n) (p : Int) (fun i => M.getD i 0) (fun i => (i : Int) ∈ L)
def Sides (g : P.G) (n : Nat) (w : World) (cs : Array Value) : Prop := ∀ p, p < 2 → SideW g n w cs p
theorem Sides.on {g : P.G} {n : Nat} {w w' : World} {cs : Array Value} (h : Sides g n w cs) (hb : Below w.heap.size w w') : Sides g n w' cs := fun p hp => by
  obtain ⟨L, M, rv, mv, h1, h2, h3, h4, h5⟩ := h p hp
  exact ⟨L, M, rv, mv, h1, h2, h3.on hb, h4.on hb, h5⟩
theorem rowOf_ints {w : World} {lo n b : Nat} {f : Nat → Int} (hn : n ≤ 200) (h : w.ownsRow lo 3 1 (.slice (some ⟨b, 0, none⟩) n n) n ((P.rowOf n f).map (Value.int .i64))) : Ints w (.slice (some ⟨b, 0, none⟩) n n) (P.rowOf n f) := by
  have hl : (P.rowOf n f).length = n := by simp [P.rowOf]
  refine OwnI.ints (lo := lo) ?_ (by omega)
  unfold OwnI
  rw [hl]
  exact h
theorem dec_sides {g : P.G} (hr : g.Right) {n : Nat} (hn : g.owner.length = n) {lo : Nat} {X Y : BitVec 256} {c1 : List Int} {d1 : Int} {r0 r1 : Value} {b0 b1 : Nat} {w : World} (h : Dec g n lo X Y c1 d1 r0 r1 b0 b1 w) :
    Sides g n w #[r0, r1, .slice (some ⟨b0, 0, none⟩) n n, .slice (some ⟨b1, 0, none⟩) n n] := by
  obtain ⟨⟨h1, h2⟩, h3, h4⟩ := dec_wins hr hn h.ap
  have h200 : n ≤ 200 := by rw [← hn]; exact hr.many
  intro p hp
  match p, hp with
  | 0, _ => exact ⟨_, _, _, _, rfl, rfl, h.zero.ints, rowOf_ints h200 h.zero.2.1, by simp [P.rowOf], h1, h2⟩
  | 1, _ => exact ⟨_, _, _, _, rfl, rfl, h.one.ints, rowOf_ints h200 h.one.2.1, by simp [P.rowOf], h3, h4⟩
end W
end Go.Proofs.YtghdjkpndhcplaaDoor
