/- Plays against a script: stands, how one goes on, and where it goes round. Plain. -/
import Derived.Test.YtghdjkpndhcplaaParP
import Derived.Test.YtghdjkpndhcplaaMovP
namespace Go.Proofs.Ytghdjkpndhcplaa
namespace P
/-- A player's own move at a position. -/
def ownMove (moves : List Int) (i : Nat) : Int := if i < moves.length then moves.getD i 0 else -1
/-- Which of n moves a script's number takes. -/
def pick (z : Int) (n : Nat) : Nat := (z % (n : Int)).toNat
/-- The stand behind one: position and place; none, where the own move is none. -/
def stepS (g : G) (p : Int) (moves script : List Int) (s : Nat × Nat) : Option (Nat × Nat) :=
  if g.owner.getD s.1 0 = p then
    if ownMove moves s.1 ∈ g.moves.getD s.1 [] then some ((ownMove moves s.1).toNat, s.2) else none
  else some (((g.moves.getD s.1 []).getD (pick (script.getD s.2 0) (g.moves.getD s.1 []).length) 0).toNat, (s.2 + 1) % script.length)
/-- Each stand is the one behind the one ahead of it. -/
def Chain (f : Nat × Nat → Option (Nat × Nat)) : List (Nat × Nat) → Nat × Nat → Prop
  | [], _ => True
  | [a], s => f a = some s
  | a :: b :: l, s => f a = some b ∧ Chain f (b :: l) s
theorem Chain.snoc {f : Nat × Nat → Option (Nat × Nat)} : ∀ {l : List (Nat × Nat)} {s t : Nat × Nat}, Chain f l s → f s = some t → Chain f (l ++ [s]) t
  | [], _, _, _, h => h
  | [_], _, _, h, h2 => ⟨h, h2⟩
  | _ :: b :: l, _, _, h, h2 => ⟨h.1, Chain.snoc (l := b :: l) h.2 h2⟩
theorem Chain.drop {f : Nat × Nat → Option (Nat × Nat)} : ∀ {l : List (Nat × Nat)} {s : Nat × Nat} (k : Nat), Chain f l s → Chain f (l.drop k) s
  | _, _, 0, h => h
  | [], _, _ + 1, _ => trivial
  | [_], _, k + 1, _ => by rw [List.drop_succ_cons, List.drop_nil]; trivial
  | _ :: b :: l, _, k + 1, h => Chain.drop (l := b :: l) k h.2
/-- What holds of the first stand and is kept by each step holds of all. -/
theorem Chain.all {f : Nat × Nat → Option (Nat × Nat)} (S : Nat × Nat → Prop) (hS : ∀ a b, S a → f a = some b → S b) : ∀ {l : List (Nat × Nat)} {s : Nat × Nat}, Chain f l s → (∀ a, l.head? = some a → S a) → (l = [] → S s) → (∀ a ∈ l, S a) ∧ S s
  | [], _, _, _, h => ⟨fun _ h => (by cases h), h rfl⟩
  | [a], s, h, h0, _ => ⟨fun b hb => by rw [List.mem_singleton.1 hb]; exact h0 a rfl, hS a s (h0 a rfl) h⟩
  | a :: b :: l, s, h, h0, _ => by
    have ha := h0 a rfl
    have := Chain.all S hS (l := b :: l) h.2 (fun c hc => by injection hc with hc; rw [← hc]; exact hS a b ha h.1) (fun e => (by cases e))
    exact ⟨fun c hc => by
      rcases List.mem_cons.1 hc with rfl | hc
      · exact ha
      · exact this.1 c hc, this.2⟩
/-- A way through positions, from a stand of the round to the end of it. -/
theorem Chain.path {f : Nat × Nat → Option (Nat × Nat)} {E : Nat → Nat → Prop} {ok : Nat → Prop} (hE : ∀ a b, f a = some b → E a.1 b.1) : ∀ {l : List (Nat × Nat)} {a s : Nat × Nat}, Chain f (a :: l) s → (∀ b ∈ l, ok b.1) → ok s.1 → Path E ok a.1 s.1
  | [], a, s, h, _, hs => .one (hE a s h) hs
  | b :: l, a, _, h, hl, hs => .more (hE a b h.1) (hl b (List.mem_cons_self ..)) (Chain.path hE (l := l) h.2 (fun c hc => hl c (List.mem_cons_of_mem _ hc)) hs)
/-- From each stand of a round one comes to it again, all stands of the round being fine. -/
theorem Chain.round {f : Nat × Nat → Option (Nat × Nat)} {E : Nat → Nat → Prop} {ok : Nat → Prop} (hE : ∀ a b, f a = some b → E a.1 b.1) {l : List (Nat × Nat)} {s : Nat × Nat} (h : Chain f (s :: l) s) (hok : ∀ b ∈ s :: l, ok b.1) : ∀ b ∈ s :: l, Path E ok b.1 b.1 := by
  have hs := hok s (List.mem_cons_self ..)
  have all := Chain.path hE h (fun b hb => hok b (List.mem_cons_of_mem _ hb)) hs
  intro b hb
  rcases List.mem_cons.1 hb with rfl | hb
  · exact all
  · obtain ⟨l1, l2, rfl⟩ := List.append_of_mem hb
    have tail : Path E ok b.1 s.1 := by
      have h2 := h.drop (l1.length + 1)
      rw [List.drop_succ_cons, List.drop_left] at h2
      exact Chain.path hE h2 (fun c hc => hok c (by simp [hc])) hs
    have head : Path E ok s.1 b.1 := by
      have key : ∀ (l1 : List (Nat × Nat)) (a : Nat × Nat), Chain f (a :: (l1 ++ b :: l2)) s → (∀ c ∈ l1, ok c.1) → Path E ok a.1 b.1 := by
        intro l1
        induction l1 with
        | nil => exact fun a ha _ => .one (hE a b ha.1) (hok b (by simp))
        | cons c l1 ih => exact fun a ha hc => .more (hE a c ha.1) (hc c (List.mem_cons_self ..)) (ih c ha.2 fun d hd => hc d (List.mem_cons_of_mem _ hd))
      exact key l1 s h fun c hc => hok c (by simp [hc])
    exact tail.trans head
section
variable {g : G} (hr : g.Right) {n : Nat} (hn : g.owner.length = n) {p : Int} {moves script : List Int}
include hr hn in
theorem stepS_in (hs : 0 < script.length) {a b : Nat × Nat} (ha : a.1 < n ∧ a.2 < script.length) (h : stepS g p moves script a = some b) : (b.1 < n ∧ b.2 < script.length) ∧ (b.1 : Int) ∈ g.moves.getD a.1 [] ∧ (g.owner.getD a.1 0 = p → (b.1 : Int) = ownMove moves a.1) := by
  unfold stepS at h
  by_cases ho : g.owner.getD a.1 0 = p
  · rw [if_pos ho] at h
    by_cases hm : ownMove moves a.1 ∈ g.moves.getD a.1 []
    · rw [if_pos hm] at h
      injection h with h
      subst h
      have h1 := hr.moves_in (by omega) _ hm
      have e : ((ownMove moves a.1).toNat : Int) = ownMove moves a.1 := by omega
      exact ⟨⟨by show (ownMove moves a.1).toNat < n; omega, ha.2⟩, by show ((ownMove moves a.1).toNat : Int) ∈ _; rw [e]; exact hm, fun _ => e⟩
    · rw [if_neg hm] at h; cases h
  · rw [if_neg ho] at h
    injection h with h
    subst h
    have h4 := (hr.at a.1 (by omega)).2.2.2.1
    have hl : 0 < (g.moves.getD a.1 []).length := List.length_pos_iff.2 h4
    have hk : pick (script.getD a.2 0) (g.moves.getD a.1 []).length < (g.moves.getD a.1 []).length := by
      unfold pick
      have h1 := Int.emod_nonneg (script.getD a.2 0) (show ((g.moves.getD a.1 []).length : Int) ≠ 0 by omega)
      have h2 := Int.emod_lt_of_pos (script.getD a.2 0) (show (0 : Int) < ((g.moves.getD a.1 []).length : Int) by omega)
      omega
    obtain ⟨z, hz⟩ : ∃ z, (g.moves.getD a.1 []).getD (pick (script.getD a.2 0) (g.moves.getD a.1 []).length) 0 = z := ⟨_, rfl⟩
    have hzm : z ∈ g.moves.getD a.1 [] := by
      rw [← hz]
      generalize g.moves.getD a.1 [] = l at hk ⊢
      rw [List.getD_eq_getElem?_getD, List.getElem?_eq_getElem hk]
      exact List.getElem_mem hk
    have h1 := hr.moves_in (by omega) _ hzm
    rw [hz]
    have e : (z.toNat : Int) = z := by omega
    exact ⟨⟨by show z.toNat < n; omega, Nat.mod_lt _ hs⟩, by show (z.toNat : Int) ∈ _; rw [e]; exact hzm, fun h => absurd h ho⟩
end
/-- The highest priority of some stands, not below z. -/
def topS (g : G) : Int → List (Nat × Nat) → Int
  | z, [] => z
  | z, a :: l => topS g (if z < g.prio.getD a.1 0 then g.prio.getD a.1 0 else z) l
theorem topS_spec (g : G) : ∀ (l : List (Nat × Nat)) (z : Int), z ≤ topS g z l ∧ (∀ a ∈ l, g.prio.getD a.1 0 ≤ topS g z l) ∧ (topS g z l = z ∨ ∃ a ∈ l, g.prio.getD a.1 0 = topS g z l)
  | [], z => ⟨Int.le_refl _, fun _ h => (by cases h), .inl rfl⟩
  | a :: l, z => by
    obtain ⟨h1, h2, h3⟩ := topS_spec g l (if z < g.prio.getD a.1 0 then g.prio.getD a.1 0 else z)
    have e : topS g z (a :: l) = topS g (if z < g.prio.getD a.1 0 then g.prio.getD a.1 0 else z) l := rfl
    rw [e]
    have h4 : z ≤ (if z < g.prio.getD a.1 0 then g.prio.getD a.1 0 else z) ∧ g.prio.getD a.1 0 ≤ (if z < g.prio.getD a.1 0 then g.prio.getD a.1 0 else z) := by split <;> omega
    refine ⟨by omega, fun b hb => ?_, ?_⟩
    · rcases List.mem_cons.1 hb with rfl | hb
      · omega
      · exact h2 b hb
    · rcases h3 with h3 | ⟨b, hb, h3⟩
      · by_cases hz : z < g.prio.getD a.1 0
        · rw [if_pos hz] at h3 ⊢
          exact .inr ⟨a, List.mem_cons_self .., h3.symm⟩
        · rw [if_neg hz] at h3 ⊢
          exact .inl h3
      · exact .inr ⟨b, List.mem_cons_of_mem _ hb, h3⟩
/-- Who follows a strategy that wins stays in its region, and wins the round. -/
theorem won_play {g : G} (hr : g.Right) {n : Nat} (hn : g.owner.length = n) {p : Int} {moves script : List Int} {R : Nat → Prop} (hw : WinsIn g (· < n) p (fun i => moves.getD i (-1)) R) (hml : moves.length = n) (hs : 0 < script.length) {i0 : Nat} (hi0 : R i0)
    {A B : List (Nat × Nat)} {s : Nat × Nat} (hc : Chain (stepS g p moves script) (A ++ s :: B) s) (h0 : (A ++ s :: B).head? = some (i0, 0)) :
    (∀ a ∈ A ++ s :: B, R a.1) ∧ topS g 0 (s :: B) % 2 = p := by
  have own : ∀ i, i < n → ownMove moves i = moves.getD i (-1) := fun i hi => by
    unfold ownMove
    rw [if_pos (by omega), List.getD_eq_getElem?_getD, List.getD_eq_getElem?_getD, List.getElem?_eq_getElem (by omega)]
    rfl
  have hstep : ∀ a b, (R a.1 ∧ a.2 < script.length) → stepS g p moves script a = some b → (R b.1 ∧ b.2 < script.length) ∧ Edge g (· < n) p (fun i => moves.getD i (-1)) a.1 b.1 := fun a b ha h => by
    have hin := hw.sub a.1 ha.1
    have h1 := stepS_in hr hn hs ⟨hin, ha.2⟩ h
    have he : Edge g (· < n) p (fun i => moves.getD i (-1)) a.1 b.1 := ⟨h1.2.1, h1.1.1, fun ho => by rw [h1.2.2 ho, own _ hin]⟩
    exact ⟨⟨hw.stays ha.1 he, h1.1.2⟩, he⟩
  have hall := (Chain.all (fun a => R a.1 ∧ a.2 < script.length) (fun a b ha h => (hstep a b ha h).1) hc (fun a ha => by rw [h0] at ha; injection ha with ha; rw [← ha]; exact ⟨hi0, hs⟩) (fun e => by cases A <;> cases e)).1
  refine ⟨fun a ha => (hall a ha).1, ?_⟩
  have hrd : Chain (stepS g p moves script) (s :: B) s := by
    have := hc.drop A.length
    rw [List.drop_left] at this
    exact this
  have hin : ∀ a ∈ s :: B, R a.1 ∧ a.2 < script.length := fun a ha => hall a (List.mem_append_right _ ha)
  obtain ⟨h1, h2, h3⟩ := topS_spec g (s :: B) 0
  have hex : ∃ a ∈ s :: B, g.prio.getD a.1 0 = topS g 0 (s :: B) := by
    rcases h3 with h3 | h3
    · refine ⟨s, List.mem_cons_self .., ?_⟩
      have h4 := h2 s (List.mem_cons_self ..)
      have h5 := (hr.at s.1 (by rw [hn]; exact hw.sub _ (hin s (List.mem_cons_self ..)).1)).2.1
      omega
    · exact h3
  obtain ⟨a, ha, hpa⟩ := hex
  refine Classical.byContradiction fun hne => ?_
  refine hw.good a.1 (hin a ha).1 (by rw [hpa]; exact hne) ?_
  have hp := Chain.round (E := fun x y => ∃ a b : Nat × Nat, a ∈ s :: B ∧ a.1 = x ∧ b.1 = y ∧ stepS g p moves script a = some b) (f := fun a => if a ∈ s :: B then stepS g p moves script a else none) (ok := fun j => R j ∧ g.prio.getD j 0 ≤ g.prio.getD a.1 0) (fun c d h => by
    by_cases hc2 : c ∈ s :: B
    · rw [if_pos hc2] at h
      exact ⟨c, d, hc2, rfl, rfl, h⟩
    · rw [if_neg hc2] at h; cases h) (l := B) (s := s) ?_ (fun b hb => ⟨(hin b hb).1, by rw [hpa]; exact h2 b hb⟩) a ha
  · refine hp.imp (fun x y ⟨c, d, hc2, e1, e2, h⟩ => ?_) fun _ h => h
    rw [← e1, ← e2]
    exact (hstep c d (hin c hc2) h).2
  · have key : ∀ (l : List (Nat × Nat)) (t : Nat × Nat), (∀ c ∈ l, c ∈ s :: B) → Chain (stepS g p moves script) l t → Chain (fun a => if a ∈ s :: B then stepS g p moves script a else none) l t := by
      intro l
      induction l with
      | nil => exact fun _ _ _ => trivial
      | cons c l ih =>
        intro t hm hch
        cases l with
        | nil => show (if c ∈ s :: B then _ else _) = _; rw [if_pos (hm c (List.mem_cons_self ..))]; exact hch
        | cons d l => exact ⟨by show (if c ∈ s :: B then _ else _) = _; rw [if_pos (hm c (List.mem_cons_self ..))]; exact hch.1, ih t (fun e he => hm e (List.mem_cons_of_mem _ he)) hch.2⟩
    exact key (s :: B) s (fun _ h => h) hrd
end P
end Go.Proofs.Ytghdjkpndhcplaa
