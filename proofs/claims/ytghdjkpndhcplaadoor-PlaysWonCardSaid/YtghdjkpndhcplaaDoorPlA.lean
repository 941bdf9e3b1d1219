/- Plays against a script: stands, how one goes on, and where it goes round. Plain. Plays against a script: there is one end; a script written twice over. Plain. Plays that go round: the position behind so many moves; a script written twice over says the same. Plain. The play that goes a way and comes back to a place of it: its highest priority. What Run tells. Plain, and as the program has it. Stands as keys of a map: what the map says of those met so far. Run's loop: what lies in memory at a round's begin. -/
import Derived.Test.YtghdjkpndhcplaaDoorParP
import Derived.Test.YtghdjkpndhcplaaDoorDecA
import Derived.Test.YtghdjkpndhcplaaDoorHep
import Derived.Test.YtghdjkpndhcplaaDoorKeep
import Derived.Test.YtghdjkpndhcplaaDoorClone
import Derived.Test.YtghdjkpndhcplaaDoorReg
import Derived.Deep.Cut
import Derived.Lib.Hide
import Derived.Deep.QuietTactic
import Derived.BigQuiet
import Derived.StillTailTactics
import Derived.Maps.OwnSet
import Derived.DeepKeys4
import Derived.Test.YtghdjkpndhcplaaDoorSam
import Derived.Test.YtghdjkpndhcplaaDoorGrowR
section
namespace Go.Proofs.YtghdjkpndhcplaaDoor
namespace P
/-- A player's own move at a position. -/
def ownMove (moves : List Int) (i : Nat) : Int := if i < moves.length then moves.getD i 0 else -1
/-- Which of n moves a script's number takes. -/
def pick (z : Int) (n : Nat) : Nat := (z % (n : Int)).toNat
/-- The stand behind one: position and place; none, where the own move is none. -/
def stepS (g : G) (p : Int) (moves script : List Int) (s : Nat × Nat) : Option (Nat × Nat) :=
  if g.owner.getD s.1 0 = p then
    if ownMove moves s.1 ∈ g.moves.getD s.1 [] then some ((ownMove moves s.1).toNat, s.2) else none
  else some (((g.moves.getD s.1 []).getD (pick (script.getD s.2 0) (g.moves.getD s.1 []).length) 0).toNat, (s.2 + 1) % script.length)
/-- Each stand is the one behind the one ahead of it. -/
def Chain (f : Nat × Nat → Option (Nat × Nat)) : List (Nat × Nat) → Nat × Nat → Prop
  | [], _ => True
  | [a], s => f a = some s
  | a :: b :: l, s => f a = some b ∧ Chain f (b :: l) s
theorem Chain.snoc {f : Nat × Nat → Option (Nat × Nat)} : ∀ {l : List (Nat × Nat)} {s t : Nat × Nat}, Chain f l s → f s = some t → Chain f (l ++ [s]) t
  | [], _, _, _, h => h
  | [_], _, _, h, h2 => ⟨h, h2⟩
  | _ :: b :: l, _, _, h, h2 => ⟨h.1, Chain.snoc (l := b :: l) h.2 h2⟩
theorem Chain.drop {f : Nat × Nat → Option (Nat × Nat)} : ∀ {l : List (Nat × Nat)} {s : Nat × Nat} (k : Nat), Chain f l s → Chain f (l.drop k) s
  | _, _, 0, h => h
  | [], _, _ + 1, _ => trivial
  | [_], _, k + 1, _ => by rw [List.drop_succ_cons, List.drop_nil]; trivial
  | _ :: b :: l, _, k + 1, h => Chain.drop (l := b :: l) k h.2
/-- What holds of the first stand and is kept by each step holds of all. -/
theorem Chain.all {f : Nat × Nat → Option (Nat × Nat)} (S : Nat × Nat → Prop) (hS : ∀ a b, S a → f a = some b → S b) : ∀ {l : List (Nat × Nat)} {s : Nat × Nat}, Chain f l s → (∀ a, l.head? = some a → S a) → (l = [] → S s) → (∀ a ∈ l, S a) ∧ S s
  | [], _, _, _, h => ⟨fun _ h => (by cases h), h rfl⟩
  | [a], s, h, h0, _ => ⟨fun b hb => by rw [List.mem_singleton.1 hb]; exact h0 a rfl, hS a s (h0 a rfl) h⟩
  | a :: b :: l, s, h, h0, _ => by
    have ha := h0 a rfl
    have := Chain.all S hS (l := b :: l) h.2 (fun c hc => by injection hc with hc; rw [← hc]; exact hS a b ha h.1) (fun e => (by cases e))
    exact ⟨fun c hc => by
      rcases List.mem_cons.1 hc with rfl | hc
      · exact ha
      · exact this.1 c hc, this.2⟩
/-- A way through positions, from a stand of the round to the end of it. -/
theorem Chain.path {f : Nat × Nat → Option (Nat × Nat)} {E : Nat → Nat → Prop} {ok : Nat → Prop} (hE : ∀ a b, f a = some b → E a.1 b.1) : ∀ {l : List (Nat × Nat)} {a s : Nat × Nat}, Chain f (a :: l) s → (∀ b ∈ l, ok b.1) → ok s.1 → Path E ok a.1 s.1
  | [], a, s, h, _, hs => .one (hE a s h) hs
  | b :: l, a, _, h, hl, hs => .more (hE a b h.1) (hl b (List.mem_cons_self ..)) (Chain.path hE (l := l) h.2 (fun c hc => hl c (List.mem_cons_of_mem _ hc)) hs)
/-- From each stand of a round one comes to it again, all stands of the round being fine. -/
theorem Chain.round {f : Nat × Nat → Option (Nat × Nat)} {E : Nat → Nat → Prop} {ok : Nat → Prop} (hE : ∀ a b, f a = some b → E a.1 b.1) {l : List (Nat × Nat)} {s : Nat × Nat} (h : Chain f (s :: l) s) (hok : ∀ b ∈ s :: l, ok b.1) : ∀ b ∈ s :: l, Path E ok b.1 b.1 := by
  have hs := hok s (List.mem_cons_self ..)
  have all := Chain.path hE h (fun b hb => hok b (List.mem_cons_of_mem _ hb)) hs
  intro b hb
  rcases List.mem_cons.1 hb with rfl | hb
  · exact all
  · obtain ⟨l1, l2, rfl⟩ := List.append_of_mem hb
    have tail : Path E ok b.1 s.1 := by
      have h2 := h.drop (l1.length + 1)
      rw [List.drop_succ_cons, List.drop_left] at h2
      exact Chain.path hE h2 (fun c hc => hok c (by simp [hc])) hs
    have head : Path E ok s.1 b.1 := by
      have key : ∀ (l1 : List (Nat × Nat)) (a : Nat × Nat), Chain f (a :: (l1 ++ b :: l2)) s → (∀ c ∈ l1, ok c.1) → Path E ok a.1 b.1 := by
        intro l1
        induction l1 with
        | nil => exact fun a ha _ => .one (hE a b ha.1) (hok b (by simp))
        | cons c l1 ih => exact fun a ha hc => .more (hE a c ha.1) (hc c (List.mem_cons_self ..)) (ih c ha.2 fun d hd => hc d (List.mem_cons_of_mem _ hd))
      exact key l1 s h fun c hc => hok c (by simp [hc])
    exact tail.trans head
section
variable {g : G} (hr : g.Right) {n : Nat} (hn : g.owner.length = n) {p : Int} {moves script : List Int}
include hr hn in
theorem stepS_in (hs : 0 < script.length) {a b : Nat × Nat} (ha : a.1 < n ∧ a.2 < script.length) (h : stepS g p moves script a = some b) : (b.1 < n ∧ b.2 < script.length) ∧ (b.1 : Int) ∈ g.moves.getD a.1 [] ∧ (g.owner.getD a.1 0 = p → (b.1 : Int) = ownMove moves a.1) := by
  unfold stepS at h
  by_cases ho : g.owner.getD a.1 0 = p
  · rw [if_pos ho] at h
    by_cases hm : ownMove moves a.1 ∈ g.moves.getD a.1 []
    · rw [if_pos hm] at h
      injection h with h
      subst h
      have h1 := hr.moves_in (by omega) _ hm
      have e : ((ownMove moves a.1).toNat : Int) = ownMove moves a.1 := by omega
      exact ⟨⟨by show (ownMove moves a.1).toNat < n; omega, ha.2⟩, by show ((ownMove moves a.1).toNat : Int) ∈ _; rw [e]; exact hm, fun _ => e⟩
    · rw [if_neg hm] at h; cases h
  · rw [if_neg ho] at h
    injection h with h
    subst h
    have h4 := (hr.at a.1 (by omega)).2.2.2.1
    have hl : 0 < (g.moves.getD a.1 []).length := List.length_pos_iff.2 h4
    have hk : pick (script.getD a.2 0) (g.moves.getD a.1 []).length < (g.moves.getD a.1 []).length := by
      unfold pick
      have h1 := Int.emod_nonneg (script.getD a.2 0) (show ((g.moves.getD a.1 []).length : Int) ≠ 0 by omega)
      have h2 := Int.emod_lt_of_pos (script.getD a.2 0) (show (0 : Int) < ((g.moves.getD a.1 []).length : Int) by omega)
      omega
    obtain ⟨z, hz⟩ : ∃ z, (g.moves.getD a.1 []).getD (pick (script.getD a.2 0) (g.moves.getD a.1 []).length) 0 = z := ⟨_, rfl⟩
    have hzm : z ∈ g.moves.getD a.1 [] := by
      rw [← hz]
      generalize g.moves.getD a.1 [] = l at hk ⊢
      rw [List.getD_eq_getElem?_getD, List.getElem?_eq_getElem hk]
      exact List.getElem_mem hk
    have h1 := hr.moves_in (by omega) _ hzm
    rw [hz]
    have e : (z.toNat : Int) = z := by omega
    exact ⟨⟨by show z.toNat < n; omega, Nat.mod_lt _ hs⟩, by show (z.toNat : Int) ∈ _; rw [e]; exact hzm, fun h => absurd h ho⟩
end
/-- The highest priority of some stands, not below z. -/
def topS (g : G) : Int → List (Nat × Nat) → Int
  | z, [] => z
  | z, a :: l => topS g (if z < g.prio.getD a.1 0 then g.prio.getD a.1 0 else z) l
theorem topS_spec (g : G) : ∀ (l : List (Nat × Nat)) (z : Int), z ≤ topS g z l ∧ (∀ a ∈ l, g.prio.getD a.1 0 ≤ topS g z l) ∧ (topS g z l = z ∨ ∃ a ∈ l, g.prio.getD a.1 0 = topS g z l)
  | [], z => ⟨Int.le_refl _, fun _ h => (by cases h), .inl rfl⟩
  | a :: l, z => by
    obtain ⟨h1, h2, h3⟩ := topS_spec g l (if z < g.prio.getD a.1 0 then g.prio.getD a.1 0 else z)
    have e : topS g z (a :: l) = topS g (if z < g.prio.getD a.1 0 then g.prio.getD a.1 0 else z) l := rfl
    rw [e]
    have h4 : z ≤ (if z < g.prio.getD a.1 0 then g.prio.getD a.1 0 else z) ∧ g.prio.getD a.1 0 ≤ (if z < g.prio.getD a.1 0 then g.prio.getD a.1 0 else z) := by split <;> omega
    refine ⟨by omega, fun b hb => ?_, ?_⟩
    · rcases List.mem_cons.1 hb with rfl | hb
      · omega
      · exact h2 b hb
    · rcases h3 with h3 | ⟨b, hb, h3⟩
      · by_cases hz : z < g.prio.getD a.1 0
        · rw [if_pos hz] at h3 ⊢
          exact .inr ⟨a, List.mem_cons_self .., h3.symm⟩
        · rw [if_neg hz] at h3 ⊢
          exact .inl h3
      · exact .inr ⟨b, List.mem_cons_of_mem _ hb, h3⟩
/-- Who follows a strategy that wins stays in its region, and wins the round. -/
theorem won_play {g : G} (hr : g.Right) {n : Nat} (hn : g.owner.length = n) {p : Int} {moves script : List Int} {R : Nat → Prop} (hw : WinsIn g (· < n) p (fun i => moves.getD i (-1)) R) (hml : moves.length = n) (hs : 0 < script.length) {i0 : Nat} (hi0 : R i0)
    {A B : List (Nat × Nat)} {s : Nat × Nat} (hc : Chain (stepS g p moves script) (A ++ s :: B) s) (h0 : (A ++ s :: B).head? = some (i0, 0)) :
    (∀ a ∈ A ++ s :: B, R a.1) ∧ topS g 0 (s :: B) % 2 = p := by
  have own : ∀ i, i < n → ownMove moves i = moves.getD i (-1) := fun i hi => by
    unfold ownMove
    rw [if_pos (by omega), List.getD_eq_getElem?_getD, List.getD_eq_getElem?_getD, List.getElem?_eq_getElem (by omega)]
    rfl
  have hstep : ∀ a b, (R a.1 ∧ a.2 < script.length) → stepS g p moves script a = some b → (R b.1 ∧ b.2 < script.length) ∧ Edge g (· < n) p (fun i => moves.getD i (-1)) a.1 b.1 := fun a b ha h => by
    have hin := hw.sub a.1 ha.1
    have h1 := stepS_in hr hn hs ⟨hin, ha.2⟩ h
    have he : Edge g (· < n) p (fun i => moves.getD i (-1)) a.1 b.1 := ⟨h1.2.1, h1.1.1, fun ho => by rw [h1.2.2 ho, own _ hin]⟩
    exact ⟨⟨hw.stays ha.1 he, h1.1.2⟩, he⟩
  have hall := (Chain.all (fun a => R a.1 ∧ a.2 < script.length) (fun a b ha h => (hstep a b ha h).1) hc (fun a ha => by rw [h0] at ha; injection ha with ha; rw [← ha]; exact ⟨hi0, hs⟩) (fun e => by cases A <;> cases e)).1
  refine ⟨fun a ha => (hall a ha).1, ?_⟩
  have hrd : Chain (stepS g p moves script) (s :: B) s := by
    have := hc.drop A.length
    rw [List.drop_left] at this
    exact this
  have hin : ∀ a ∈ s :: B, R a.1 ∧ a.2 < script.length := fun a ha => hall a (List.mem_append_right _ ha)
  obtain ⟨h1, h2, h3⟩ := topS_spec g (s :: B) 0
  have hex : ∃ a ∈ s :: B, g.prio.getD a.1 0 = topS g 0 (s :: B) := by
    rcases h3 with h3 | h3
    · refine ⟨s, List.mem_cons_self .., ?_⟩
      have h4 := h2 s (List.mem_cons_self ..)
      have h5 := (hr.at s.1 (by rw [hn]; exact hw.sub _ (hin s (List.mem_cons_self ..)).1)).2.1
      omega
    · exact h3
  obtain ⟨a, ha, hpa⟩ := hex
  refine Classical.byContradiction fun hne => ?_
  refine hw.good a.1 (hin a ha).1 (by rw [hpa]; exact hne) ?_
  have hp := Chain.round (E := fun x y => ∃ a b : Nat × Nat, a ∈ s :: B ∧ a.1 = x ∧ b.1 = y ∧ stepS g p moves script a = some b) (f := fun a => if a ∈ s :: B then stepS g p moves script a else none) (ok := fun j => R j ∧ g.prio.getD j 0 ≤ g.prio.getD a.1 0) (fun c d h => by
    by_cases hc2 : c ∈ s :: B
    · rw [if_pos hc2] at h
      exact ⟨c, d, hc2, rfl, rfl, h⟩
    · rw [if_neg hc2] at h; cases h) (l := B) (s := s) ?_ (fun b hb => ⟨(hin b hb).1, by rw [hpa]; exact h2 b hb⟩) a ha
  · refine hp.imp (fun x y ⟨c, d, hc2, e1, e2, h⟩ => ?_) fun _ h => h
    rw [← e1, ← e2]
    exact (hstep c d (hin c hc2) h).2
  · have key : ∀ (l : List (Nat × Nat)) (t : Nat × Nat), (∀ c ∈ l, c ∈ s :: B) → Chain (stepS g p moves script) l t → Chain (fun a => if a ∈ s :: B then stepS g p moves script a else none) l t := by
      intro l
      induction l with
      | nil => exact fun _ _ _ => trivial
      | cons c l ih =>
        intro t hm hch
        cases l with
        | nil => show (if c ∈ s :: B then _ else _) = _; rw [if_pos (hm c (List.mem_cons_self ..))]; exact hch
        | cons d l => exact ⟨by show (if c ∈ s :: B then _ else _) = _; rw [if_pos (hm c (List.mem_cons_self ..))]; exact hch.1, ih t (fun e he => hm e (List.mem_cons_of_mem _ he)) hch.2⟩
    exact key (s :: B) s (fun _ h => h) hrd
end P
end Go.Proofs.YtghdjkpndhcplaaDoor
end
section
namespace Go.Proofs.YtghdjkpndhcplaaDoor
namespace P
/-- The stand behind so many steps. -/
def seqS (f : Nat × Nat → Option (Nat × Nat)) (s0 : Nat × Nat) : Nat → Option (Nat × Nat)
  | 0 => some s0
  | k + 1 => (seqS f s0 k).bind f
theorem seqS_shift {f : Nat × Nat → Option (Nat × Nat)} {s0 a : Nat × Nat} (h : f s0 = some a) : ∀ k, seqS f s0 (k + 1) = seqS f a k
  | 0 => by show (some s0).bind f = some a; exact h
  | k + 1 => by
    show (seqS f s0 (k + 1)).bind f = (seqS f a k).bind f
    rw [seqS_shift h k]
/-- A chain is what one comes to, step by step. -/
theorem Chain.seq {f : Nat × Nat → Option (Nat × Nat)} : ∀ {l : List (Nat × Nat)} {s s0 : Nat × Nat}, Chain f l s → (l ++ [s]).head? = some s0 → (∀ j a, l[j]? = some a → seqS f s0 j = some a) ∧ seqS f s0 l.length = some s
  | [], s, s0, _, h => ⟨fun j a hj => by simp at hj, by
    have e : s = s0 := by simpa using h
    rw [e]
    rfl⟩
  | [a], s, s0, hc, h => by
    have e : a = s0 := by simpa using h
    subst e
    refine ⟨fun j b hj => ?_, ?_⟩
    · match j, hj with
      | 0, hj => simp at hj; rw [← hj]; rfl
      | j + 1, hj => simp at hj
    · show (some a).bind f = some s
      exact hc
  | a :: b :: l, s, s0, hc, h => by
    have e : a = s0 := by simpa using h
    subst e
    obtain ⟨h1, h2⟩ := Chain.seq (l := b :: l) hc.2 (s0 := b) rfl
    refine ⟨fun j c hj => ?_, ?_⟩
    · match j, hj with
      | 0, hj => simp at hj; rw [← hj]; rfl
      | j + 1, hj => rw [seqS_shift hc.1 j]; exact h1 j c (by simpa using hj)
    · rw [show (a :: b :: l).length = (b :: l).length + 1 from rfl, seqS_shift hc.1]
      exact h2
/-- How far one has come: no stand twice, each the one behind the one ahead. -/
structure Way (f : Nat × Nat → Option (Nat × Nat)) (s0 : Nat × Nat) (l : List (Nat × Nat)) (s : Nat × Nat) : Prop where
  nodup : l.Nodup
  chain : Chain f l s
  head : (l ++ [s]).head? = some s0
theorem Way.start (f : Nat × Nat → Option (Nat × Nat)) (s0 : Nat × Nat) : Way f s0 [] s0 := ⟨List.nodup_nil, trivial, rfl⟩
theorem Way.next {f : Nat × Nat → Option (Nat × Nat)} {s0 s t : Nat × Nat} {l : List (Nat × Nat)} (h : Way f s0 l s) (hn : s ∉ l) (hs : f s = some t) : Way f s0 (l ++ [s]) t :=
  ⟨List.nodup_append.2 ⟨h.nodup, by simp, fun a ha b hb e => by
    rw [List.mem_singleton] at hb
    exact hn (by rw [← hb, ← e]; exact ha)⟩, h.chain.snoc hs, by
    have := h.head
    cases l with
    | nil => simpa using this
    | cons a l => simpa using this⟩
theorem Way.at_ {f : Nat × Nat → Option (Nat × Nat)} {s0 s : Nat × Nat} {l : List (Nat × Nat)} (h : Way f s0 l s) : (∀ j a, l[j]? = some a → seqS f s0 j = some a) ∧ seqS f s0 l.length = some s := Chain.seq h.chain h.head
/-- Two ways, one of them to its end: the other is no longer. -/
theorem Way.le {f : Nat × Nat → Option (Nat × Nat)} {s0 s t : Nat × Nat} {l m : List (Nat × Nat)} (h : Way f s0 l s) (k : Way f s0 m t) (he : s ∈ l ∨ f s = none) : m.length ≤ l.length := by
  rcases Nat.lt_or_ge l.length m.length with hlt | hge
  · exfalso
    have h1 := h.at_
    have k1 := k.at_
    have hm : m[l.length]? = some s := by
      have e := k1.1 l.length _ (List.getElem?_eq_getElem hlt)
      rw [h1.2] at e
      rw [List.getElem?_eq_getElem hlt, ← e]
    rcases he with he | he
    · obtain ⟨i, hi⟩ := List.mem_iff_getElem?.1 he
      have hil := (List.getElem?_eq_some_iff.1 hi).1
      have e1 := h1.1 i s hi
      have e2 := k1.1 i _ (List.getElem?_eq_getElem (by omega : i < m.length))
      rw [e1] at e2
      have hmi : m[i]? = some s := by rw [List.getElem?_eq_getElem (by omega : i < m.length), ← e2]
      obtain ⟨p1, p2⟩ := List.getElem?_eq_some_iff.1 hmi
      obtain ⟨q1, q2⟩ := List.getElem?_eq_some_iff.1 hm
      exact List.pairwise_iff_getElem.1 k.nodup i l.length p1 q1 hil (p2.trans q2.symm)
    · have e : seqS f s0 (l.length + 1) = none := by
        show (seqS f s0 l.length).bind f = none
        rw [h1.2]
        exact he
      rcases Nat.lt_or_ge (l.length + 1) m.length with h2 | h2
      · rw [k1.1 _ _ (List.getElem?_eq_getElem h2)] at e; cases e
      · rw [show l.length + 1 = m.length by omega, k1.2] at e; cases e
  · exact hge
/-- There is one end. -/
theorem Way.one {f : Nat × Nat → Option (Nat × Nat)} {s0 s t : Nat × Nat} {l m : List (Nat × Nat)} (h : Way f s0 l s) (k : Way f s0 m t) (he : s ∈ l ∨ f s = none) (ke : t ∈ m ∨ f t = none) : l = m ∧ s = t := by
  have hl : l.length = m.length := Nat.le_antisymm (k.le h ke) (h.le k he)
  have h1 := h.at_
  have k1 := k.at_
  refine ⟨List.ext_getElem? fun i => ?_, ?_⟩
  · rcases Nat.lt_or_ge i l.length with hi | hi
    · have e1 := h1.1 i _ (List.getElem?_eq_getElem hi)
      have e2 := k1.1 i _ (List.getElem?_eq_getElem (by omega : i < m.length))
      rw [e1] at e2
      injection e2 with e2
      rw [List.getElem?_eq_getElem hi, List.getElem?_eq_getElem (by omega : i < m.length), e2]
    · rw [List.getElem?_eq_none hi, List.getElem?_eq_none (by omega)]
  · have e := h1.2
    rw [hl, k1.2] at e
    injection e with e
    exact e.symm
/-- A way among few stands is short. -/
theorem Way.short {f : Nat × Nat → Option (Nat × Nat)} {s0 s : Nat × Nat} {l : List (Nat × Nat)} (h : Way f s0 l s) {n m : Nat} (hb : ∀ a ∈ l, a.1 < n ∧ a.2 < m) : l.length ≤ n * m := by
  have h1 : (l.map fun a => a.1 * m + a.2).Nodup := by
    refine List.Pairwise.map _ ?_ (List.Pairwise.and_mem.1 h.nodup)
    rintro a b ⟨ha, hb2, hne⟩ e
    have h2 := hb a ha
    have h3 := hb b hb2
    have e1 : (a.1 * m + a.2) / m = (b.1 * m + b.2) / m := by rw [e]
    have hm : 0 < m := by omega
    rw [Nat.mul_comm a.1, Nat.mul_comm b.1, Nat.mul_add_div hm, Nat.mul_add_div hm, Nat.div_eq_of_lt h2.2, Nat.div_eq_of_lt h3.2] at e1
    have e2 : a.1 = b.1 := by omega
    rw [e2] at e
    exact hne (Prod.ext e2 (by omega))
  have h2 := nodup_lt (n * m) _ h1 fun x hx => by
    obtain ⟨a, ha, rfl⟩ := List.mem_map.1 hx
    have h3 := hb a ha
    have h4 : a.1 * m + m ≤ n * m := by
      rw [← Nat.succ_mul]
      exact Nat.mul_le_mul_right m h3.1
    omega
  rw [List.length_map] at h2
  exact h2
end P
end Go.Proofs.YtghdjkpndhcplaaDoor
end
section
namespace Go.Proofs.YtghdjkpndhcplaaDoor
namespace P
theorem seqS_same {f : Nat × Nat → Option (Nat × Nat)} {s0 : Nat × Nat} {i j : Nat} (h : seqS f s0 i = seqS f s0 j) : ∀ t, seqS f s0 (i + t) = seqS f s0 (j + t)
  | 0 => h
  | t + 1 => by
    show (seqS f s0 (i + t)).bind f = (seqS f s0 (j + t)).bind f
    rw [seqS_same h t]
section
variable {f : Nat × Nat → Option (Nat × Nat)} {s0 s : Nat × Nat} {l : List (Nat × Nat)} {i : Nat}
/-- A way that comes again to place i goes round from there. -/
theorem Way.period (h : Way f s0 l s) (hi : l[i]? = some s) (t : Nat) : seqS f s0 (i + t) = l[i + t % (l.length - i)]? := by
  have h1 := h.at_
  have hil := (List.getElem?_eq_some_iff.1 hi).1
  have hd : 0 < l.length - i := by omega
  have back : ∀ t, seqS f s0 (l.length + t) = seqS f s0 (i + t) := seqS_same (by rw [h1.2, h1.1 i s hi])
  induction t using Nat.strongRecOn with
  | ind t ih =>
    rcases Nat.lt_or_ge t (l.length - i) with ht | ht
    · rw [Nat.mod_eq_of_lt ht, List.getElem?_eq_getElem (by omega : i + t < l.length)]
      exact h1.1 _ _ (List.getElem?_eq_getElem (by omega))
    · have e : i + t = l.length + (t - (l.length - i)) := by omega
      rw [e, back, ih (t - (l.length - i)) (by omega)]
      congr 2
      rw [Nat.mod_eq_sub_mod ht]
/-- The stand behind k moves, as the play tells it. -/
theorem Way.tells (h : Way f s0 l s) (hi : l[i]? = some s) (k : Nat) : seqS f s0 k = if k < i then l[k]? else l[i + (k - i) % (l.length - i)]? := by
  have hil := (List.getElem?_eq_some_iff.1 hi).1
  by_cases hk : k < i
  · rw [if_pos hk, List.getElem?_eq_getElem (by omega : k < l.length)]
    exact h.at_.1 k _ (List.getElem?_eq_getElem (by omega))
  · rw [if_neg hk, ← h.period hi (k - i), show i + (k - i) = k by omega]
theorem Way.goes (h : Way f s0 l s) (hi : l[i]? = some s) (k : Nat) : ∃ a ∈ l, seqS f s0 k = some a := by
  have hil := (List.getElem?_eq_some_iff.1 hi).1
  have hd : 0 < l.length - i := by omega
  rw [h.tells hi k]
  by_cases hk : k < i
  · rw [if_pos hk, List.getElem?_eq_getElem (by omega : k < l.length)]
    exact ⟨_, List.getElem_mem _, rfl⟩
  · have h2 : i + (k - i) % (l.length - i) < l.length := by have := Nat.mod_lt (k - i) hd; omega
    rw [if_neg hk, List.getElem?_eq_getElem h2]
    exact ⟨_, List.getElem_mem _, rfl⟩
/-- What is in the round comes later and later; what comes late is in the round. -/
theorem Way.late (h : Way f s0 l s) (hi : l[i]? = some s) (a : Nat × Nat) (ha : a ∈ l.drop i) (N : Nat) : ∃ k, N ≤ k ∧ seqS f s0 k = some a := by
  have hil := (List.getElem?_eq_some_iff.1 hi).1
  have hd : 0 < l.length - i := by omega
  obtain ⟨j, hj⟩ := List.mem_iff_getElem?.1 ha
  rw [List.getElem?_drop] at hj
  have hjl := (List.getElem?_eq_some_iff.1 hj).1
  refine ⟨i + (j + N * (l.length - i)), ?_, ?_⟩
  · have := Nat.le_mul_of_pos_right N hd
    omega
  · rw [h.period hi, Nat.add_mul_mod_self_right, Nat.mod_eq_of_lt (by omega)]
    exact hj
theorem Way.early (h : Way f s0 l s) (hi : l[i]? = some s) {a : Nat × Nat} {k : Nat} (hk : i ≤ k) (hs : seqS f s0 k = some a) : a ∈ l.drop i := by
  have h2 := h.period hi (k - i)
  rw [show i + (k - i) = k by omega, hs, ← List.getElem?_drop] at h2
  exact List.mem_of_getElem? h2.symm
end
/-- Stands of a script, and of it twice over. -/
def Twin (m : Nat) (a b : Nat × Nat) : Prop := a.1 = b.1 ∧ b.2 % m = a.2 ∧ b.2 < 2 * m
theorem twin_step {g : G} {p : Int} {moves script : List Int} {m : Nat} (hm : script.length = m) (h0 : 0 < m) {a b : Nat × Nat} (h : Twin m a b) : (stepS g p moves script a = none ∧ stepS g p moves (script ++ script) b = none) ∨ ∃ c d, stepS g p moves script a = some c ∧ stepS g p moves (script ++ script) b = some d ∧ Twin m c d := by
  obtain ⟨a1, a2⟩ := a
  obtain ⟨b1, b2⟩ := b
  obtain ⟨e1, e2, e3⟩ := h
  replace e1 : a1 = b1 := e1
  replace e2 : b2 % m = a2 := e2
  replace e3 : b2 < 2 * m := e3
  subst e1
  unfold stepS
  simp only []
  by_cases ho : g.owner.getD a1 0 = p
  · rw [if_pos ho, if_pos ho]
    by_cases hmv : ownMove moves a1 ∈ g.moves.getD a1 []
    · rw [if_pos hmv, if_pos hmv]
      exact .inr ⟨_, _, rfl, rfl, rfl, e2, e3⟩
    · rw [if_neg hmv, if_neg hmv]
      exact .inl ⟨rfl, rfl⟩
  · rw [if_neg ho, if_neg ho]
    have es : (script ++ script).getD b2 0 = script.getD a2 0 := by
      rw [List.getD_eq_getElem?_getD, List.getD_eq_getElem?_getD]
      congr 1
      rcases Nat.lt_or_ge b2 m with hb | hb
      · rw [List.getElem?_append_left (by omega), ← e2, Nat.mod_eq_of_lt hb]
      · rw [List.getElem?_append_right (by omega), hm, ← e2, Nat.mod_eq_sub_mod hb, Nat.mod_eq_of_lt (by omega)]
    rw [es]
    refine .inr ⟨_, _, rfl, rfl, rfl, ?_, ?_⟩
    · show (b2 + 1) % (script ++ script).length % m = (a2 + 1) % script.length
      rw [List.length_append, hm, ← e2, Nat.mod_mod_of_dvd _ ⟨2, by omega⟩, Nat.mod_add_mod]
    · show (b2 + 1) % (script ++ script).length < 2 * m
      rw [List.length_append, hm]
      have := Nat.mod_lt (b2 + 1) (show 0 < m + m by omega)
      omega
theorem twin_seq {g : G} {p : Int} {moves script : List Int} {m : Nat} (hm : script.length = m) (h0 : 0 < m) (i0 : Nat) : ∀ k, (seqS (stepS g p moves script) (i0, 0) k = none ∧ seqS (stepS g p moves (script ++ script)) (i0, 0) k = none) ∨ ∃ a b, seqS (stepS g p moves script) (i0, 0) k = some a ∧ seqS (stepS g p moves (script ++ script)) (i0, 0) k = some b ∧ Twin m a b
  | 0 => .inr ⟨_, _, rfl, rfl, rfl, Nat.zero_mod m, by show 0 < 2 * m; omega⟩
  | k + 1 => by
    show ((seqS (stepS g p moves script) (i0, 0) k).bind _ = none ∧ (seqS (stepS g p moves (script ++ script)) (i0, 0) k).bind _ = none) ∨ ∃ a b, (seqS (stepS g p moves script) (i0, 0) k).bind _ = some a ∧ (seqS (stepS g p moves (script ++ script)) (i0, 0) k).bind _ = some b ∧ Twin m a b
    rcases twin_seq hm h0 i0 k with ⟨h1, h2⟩ | ⟨a, b, h1, h2, h3⟩
    · rw [h1, h2]
      exact .inl ⟨rfl, rfl⟩
    · rw [h1, h2]
      exact twin_step hm h0 h3
/-- Two rounds with the same positions have the same top. -/
theorem topS_same {g : G} {A B : List (Nat × Nat)} (h1 : ∀ a ∈ A, ∃ b ∈ B, a.1 = b.1) (h2 : ∀ b ∈ B, ∃ a ∈ A, a.1 = b.1) : topS g 0 A = topS g 0 B := by
  obtain ⟨a1, a2, a3⟩ := topS_spec g A 0
  obtain ⟨b1, b2, b3⟩ := topS_spec g B 0
  refine Int.le_antisymm ?_ ?_
  · rcases a3 with h | ⟨a, ha, h⟩
    · omega
    · obtain ⟨b, hb, e⟩ := h1 a ha
      rw [← h, e]
      exact b2 b hb
  · rcases b3 with h | ⟨b, hb, h⟩
    · omega
    · obtain ⟨a, ha, e⟩ := h2 b hb
      rw [← h, ← e]
      exact a2 a ha
/-- .. so the winner is the same, and each position behind so many moves. -/
theorem twin_ends {g : G} {p : Int} {moves script : List Int} {m : Nat} (hm : script.length = m) (h0 : 0 < m) {i0 : Nat} {l l' : List (Nat × Nat)} {s s' : Nat × Nat} {i i' : Nat} (h : Way (stepS g p moves script) (i0, 0) l s) (hi : l[i]? = some s) (h' : Way (stepS g p moves (script ++ script)) (i0, 0) l' s') (hi' : l'[i']? = some s') :
    topS g 0 (l.drop i) = topS g 0 (l'.drop i') ∧ ∀ k, ∃ a b, seqS (stepS g p moves script) (i0, 0) k = some a ∧ seqS (stepS g p moves (script ++ script)) (i0, 0) k = some b ∧ a.1 = b.1 := by
  have both : ∀ k, ∃ a b, seqS (stepS g p moves script) (i0, 0) k = some a ∧ seqS (stepS g p moves (script ++ script)) (i0, 0) k = some b ∧ a.1 = b.1 := fun k => by
    rcases twin_seq (g := g) (p := p) (moves := moves) hm h0 i0 k with ⟨h1, -⟩ | ⟨a, b, h1, h2, h3⟩
    · obtain ⟨a, -, ha⟩ := h.goes hi k
      rw [h1] at ha
      cases ha
    · exact ⟨a, b, h1, h2, h3.1⟩
  refine ⟨topS_same (fun a ha => ?_) (fun b hb => ?_), both⟩
  · obtain ⟨k, hk, hs⟩ := h.late hi a ha i'
    obtain ⟨c, d, h1, h2, h3⟩ := both k
    rw [hs] at h1
    injection h1 with h1
    exact ⟨d, h'.early hi' hk h2, by rw [h1]; exact h3⟩
  · obtain ⟨k, hk, hs⟩ := h'.late hi' b hb i
    obtain ⟨c, d, h1, h2, h3⟩ := both k
    rw [hs] at h2
    injection h2 with h2
    exact ⟨c, h.early hi hk h1, by rw [h2]; exact h3⟩
/-- A script goes round or not, twice over as once. -/
theorem twin_fails {g : G} {p : Int} {moves script : List Int} {m : Nat} (hm : script.length = m) (h0 : 0 < m) {i0 : Nat} {l l' : List (Nat × Nat)} {s s' : Nat × Nat} (h : Way (stepS g p moves script) (i0, 0) l s) (h' : Way (stepS g p moves (script ++ script)) (i0, 0) l' s') :
    (∀ i : Nat, l[i]? = some s → stepS g p moves (script ++ script) s' = none → False) ∧ (∀ i : Nat, l'[i]? = some s' → stepS g p moves script s = none → False) := by
  constructor
  · intro i hi hn
    have e : seqS (stepS g p moves (script ++ script)) (i0, 0) (l'.length + 1) = none := by
      show (seqS _ _ l'.length).bind _ = none
      rw [h'.at_.2]
      exact hn
    rcases twin_seq (g := g) (p := p) (moves := moves) hm h0 i0 (l'.length + 1) with ⟨h1, -⟩ | ⟨a, b, -, h2, -⟩
    · obtain ⟨a, -, ha⟩ := h.goes hi (l'.length + 1)
      rw [h1] at ha
      cases ha
    · rw [e] at h2; cases h2
  · intro i hi hn
    have e : seqS (stepS g p moves script) (i0, 0) (l.length + 1) = none := by
      show (seqS _ _ l.length).bind _ = none
      rw [h.at_.2]
      exact hn
    rcases twin_seq (g := g) (p := p) (moves := moves) hm h0 i0 (l.length + 1) with ⟨-, h1⟩ | ⟨a, b, h2, -, -⟩
    · obtain ⟨a, -, ha⟩ := h'.goes hi (l.length + 1)
      rw [h1] at ha
      cases ha
    · rw [e] at h2; cases h2
end P
end Go.Proofs.YtghdjkpndhcplaaDoor
end
section
namespace Go.Proofs.YtghdjkpndhcplaaDoor
open Go.RowKit
namespace W

/-- The highest priority of some positions, not below z. -/
def topZ (g : P.G) : Int → List Int → Int
  | z, [] => z
  | z, x :: l => topZ g (if z < g.prio.getD x.toNat 0 then g.prio.getD x.toNat 0 else z) l
theorem topZ_map (g : P.G) : ∀ (l : List (Nat × Nat)) (z : Int), topZ g z (l.map fun a => (a.1 : Int)) = P.topS g z l
  | [], _ => rfl
  | a :: l, z => by
    show topZ g _ (l.map fun a => (a.1 : Int)) = P.topS g _ l
    rw [topZ_map g l]
    rfl
theorem topZ_snoc (g : P.G) (x : Int) : ∀ (l : List Int) (z : Int), topZ g z (l ++ [x]) = (if topZ g z l < g.prio.getD x.toNat 0 then g.prio.getD x.toNat 0 else topZ g z l)
  | [], _ => rfl
  | _ :: l, _ => topZ_snoc g x l _
theorem topZ_bounds {g : P.G} (hr : g.Right) : ∀ (l : List Int) (z : Int), (∀ x ∈ l, 0 ≤ x ∧ x < (g.owner.length : Int)) → 0 ≤ z → z ≤ 7 → 0 ≤ topZ g z l ∧ topZ g z l ≤ 7
  | [], _, _, h0, h7 => ⟨h0, h7⟩
  | x :: l, z, hl, h0, h7 => by
    have hx := hl x (List.mem_cons_self ..)
    have h1 := (hr.at x.toNat (by omega)).2
    refine topZ_bounds hr l _ (fun y hy => hl y (List.mem_cons_of_mem _ hy)) ?_ ?_ <;> split <;> omega
/-- A contest in memory. -/
structure Ct (w : World) (qc : Nat) (g : P.G) (a b c : Value) (p : Int) (mv sc : Value) (moves script : List Int) : Prop where
  box : Box w qc 56 #[a, b, c, .int .i64 p, mv, sc]
  game : GameV w (.agg #[a, b, c]) g
  moves : Ints w mv moves
  script : Ints w sc script
theorem Ct.on {w w' : World} {qc : Nat} {g : P.G} {a b c : Value} {p : Int} {mv sc : Value} {moves script : List Int} (h : Ct w qc g a b c p mv sc moves script) (hb : Below w.heap.size w w') : Ct w' qc g a b c p mv sc moves script :=
  ⟨h.box.keep (grown_of_below hb none), h.game.on hb, h.moves.on hb, h.script.on hb⟩
end W
end Go.Proofs.YtghdjkpndhcplaaDoor
end
section
namespace Go.Proofs.YtghdjkpndhcplaaDoor
open Go.RowKit
namespace P
/-- May a play begin? -/
def fine (g : G) (z p : Int) : Prop := g.ok = true ∧ (0 ≤ z ∧ z < (g.owner.length : Int)) ∧ (p = 0 ∨ p = 1)
/-- The script that is played. -/
def scr (script : List Int) : List Int := if script.length = 0 then [0] else script
theorem scr_pos (script : List Int) : 0 < (scr script).length := by
  unfold scr
  split
  · exact Nat.zero_lt_one
  · omega
/-- What a play is: its positions ahead and in the round, its winner, the error. -/
def PlayP (g : G) (z p : Int) (moves script A B : List Int) (tp : Int) (c : Nat) : Prop :=
  (¬ fine g z p ∧ A = [] ∧ B = [] ∧ tp = 0 ∧ c = 1) ∨ (fine g z p ∧ 64 < script.length ∧ A = [] ∧ B = [] ∧ tp = 0 ∧ c = 10) ∨
  (fine g z p ∧ script.length ≤ 64 ∧ ((∃ l s i, Way (stepS g p moves (scr script)) (z.toNat, 0) l s ∧ l[i]? = some s ∧ A = (l.take i).map (fun a => (a.1 : Int)) ∧ B = (l.drop i).map (fun a => (a.1 : Int)) ∧ tp = topS g 0 (l.drop i) % 2 ∧ c = 0) ∨
    (∃ l s, Way (stepS g p moves (scr script)) (z.toNat, 0) l s ∧ stepS g p moves (scr script) s = none ∧ A = [] ∧ B = [] ∧ tp = 0 ∧ c = 16)))
theorem PlayP.unique {g : G} {z p : Int} {moves script A B A' B' : List Int} {tp tp' : Int} {c c' : Nat} (h : PlayP g z p moves script A B tp c) (k : PlayP g z p moves script A' B' tp' c') : A = A' ∧ B = B' ∧ tp = tp' ∧ c = c' := by
  rcases h with ⟨hf, rfl, rfl, rfl, rfl⟩ | ⟨hf, hl, rfl, rfl, rfl, rfl⟩ | ⟨hf, hl, h⟩
  · rcases k with ⟨kf, rfl, rfl, rfl, rfl⟩ | ⟨kf, kl, rfl, rfl, rfl, rfl⟩ | ⟨kf, -, -⟩
    · exact ⟨rfl, rfl, rfl, rfl⟩
    · exact absurd kf hf
    · exact absurd kf hf
  · rcases k with ⟨kf, rfl, rfl, rfl, rfl⟩ | ⟨kf, kl, rfl, rfl, rfl, rfl⟩ | ⟨kf, kl, -⟩
    · exact absurd hf kf
    · exact ⟨rfl, rfl, rfl, rfl⟩
    · omega
  · rcases k with ⟨kf, rfl, rfl, rfl, rfl⟩ | ⟨kf, kl, rfl, rfl, rfl, rfl⟩ | ⟨kf, kl, k⟩
    · exact absurd hf kf
    · omega
    · rcases h with ⟨l, s, i, h1, h2, rfl, rfl, rfl, rfl⟩ | ⟨l, s, h1, h2, rfl, rfl, rfl, rfl⟩
      · rcases k with ⟨m, t, j, k1, k2, rfl, rfl, rfl, rfl⟩ | ⟨m, t, k1, k2, rfl, rfl, rfl, rfl⟩
        · obtain ⟨rfl, rfl⟩ := h1.one k1 (.inl (List.mem_of_getElem? h2)) (.inl (List.mem_of_getElem? k2))
          have e : i = j := by
            have hi := (List.getElem?_eq_some_iff.1 h2).1
            have hj := (List.getElem?_eq_some_iff.1 k2).1
            have := (List.getElem?_inj hi h1.nodup).1 (h2.trans k2.symm)
            exact this
          subst e
          exact ⟨rfl, rfl, rfl, rfl⟩
        · exfalso
          obtain ⟨rfl, rfl⟩ := h1.one k1 (.inl (List.mem_of_getElem? h2)) (.inr k2)
          obtain ⟨a, -, ha⟩ := h1.goes h2 (l.length + 1)
          have : seqS (stepS g p moves (scr script)) (z.toNat, 0) (l.length + 1) = none := by
            show (seqS _ _ l.length).bind _ = none
            rw [h1.at_.2]
            exact k2
          rw [this] at ha
          cases ha
      · rcases k with ⟨m, t, j, k1, k2, rfl, rfl, rfl, rfl⟩ | ⟨m, t, k1, k2, rfl, rfl, rfl, rfl⟩
        · exfalso
          obtain ⟨rfl, rfl⟩ := k1.one h1 (.inl (List.mem_of_getElem? k2)) (.inr h2)
          obtain ⟨a, -, ha⟩ := k1.goes k2 (m.length + 1)
          have : seqS (stepS g p moves (scr script)) (z.toNat, 0) (m.length + 1) = none := by
            show (seqS _ _ m.length).bind _ = none
            rw [k1.at_.2]
            exact h2
          rw [this] at ha
          cases ha
        · exact ⟨rfl, rfl, rfl, rfl⟩
end P
namespace W

/-- What a call of Run tells. -/
def RunV (g : P.G) (z p : Int) (moves script : List Int) (lo : Nat) (e : Ending) (w' : World) : Prop :=
  ∃ v1 v2 A B tp c, e = .returned (.tuple #[.agg #[v1, v2, .int .i64 tp], .int .i64 ((c : Nat) : Int)]) ∧ OwnI w' lo v1 A ∧ OwnI w' lo v2 B ∧ Apart [v1, v2] ∧ P.PlayP g z p moves script A B tp c
theorem RunV.bad {g : P.G} {z p : Int} {moves script : List Int} {c : Nat} (h : P.PlayP g z p moves script [] [] 0 c) (lo : Nat) (w' : World) : RunV g z p moves script lo (.returned (.tuple #[.agg #[.slice none 0 0, .slice none 0 0, .int .i64 0], .int .i64 (c : Int)])) w' :=
  ⟨_, _, [], [], 0, c, rfl, OwnI.nil w' lo, OwnI.nil w' lo, Apart.nils 2, h⟩
theorem play_len {g : P.G} {z p : Int} {moves script A B : List Int} {tp : Int} {c : Nat} (h : P.PlayP g z p moves script A B tp c) : A.length ≤ 12800 ∧ B.length ≤ 12800 := by
  rcases h with ⟨-, rfl, rfl, -⟩ | ⟨-, -, rfl, rfl, -⟩ | ⟨hf, hl, ⟨l, s, i, hw, hi, rfl, rfl, -⟩ | ⟨l, s, -, -, rfl, rfl, -⟩⟩
  · exact ⟨Nat.zero_le _, Nat.zero_le _⟩
  · exact ⟨Nat.zero_le _, Nat.zero_le _⟩
  · have hr := (P.G.ok_iff g).1 hf.1
    have hs := P.scr_pos script
    have hs64 : (P.scr script).length ≤ 64 := by
      unfold P.scr
      split
      · decide
      · exact hl
    have h0 := hf.2.1
    have hall := (P.Chain.all (fun a => a.1 < g.owner.length ∧ a.2 < (P.scr script).length) (fun a b ha h => (P.stepS_in hr rfl hs ha h).1) hw.chain (fun a ha => by
      have h1 := hw.head
      cases l with
      | nil => cases ha
      | cons x l =>
        have e1 : x = a := by simpa using ha
        have e2 : x = (z.toNat, 0) := by simpa using h1
        rw [← e1, e2]
        exact ⟨by omega, hs⟩) (fun e => by
      rw [e] at hi
      simp at hi)).1
    have h1 := hw.short hall
    have h2 : l.length ≤ 12800 := Nat.le_trans h1 (Nat.mul_le_mul hr.many hs64)
    simp only [List.length_map, List.length_take, List.length_drop]
    omega
  · exact ⟨Nat.zero_le _, Nat.zero_le _⟩
/-- What Run gives, as a value. -/
def RunT (g : P.G) (z p : Int) (moves script : List Int) (lo : Nat) (v : Value) (w' : World) : Prop :=
  ∃ v1 v2 A B tp c, v = .tuple #[.agg #[v1, v2, .int .i64 tp], .int .i64 ((c : Nat) : Int)] ∧ OwnI w' lo v1 A ∧ OwnI w' lo v2 B ∧ Apart [v1, v2] ∧ P.PlayP g z p moves script A B tp c
theorem RunV.val {g : P.G} {z p : Int} {moves script : List Int} {lo : Nat} {e : Ending} {w' : World} (h : RunV g z p moves script lo e w') : ∃ v, e = .returned v ∧ RunT g z p moves script lo v w' := by
  obtain ⟨v1, v2, A, B, tp, c, rfl, h⟩ := h
  exact ⟨_, rfl, v1, v2, A, B, tp, c, rfl, h⟩
def tupAt17 (v : Value) (i : Nat) : Value := match v with
  | .tuple vs => vs.getD i undef
  | _ => undef
end W
end Go.Proofs.YtghdjkpndhcplaaDoor
end
section
namespace Go.Proofs.YtghdjkpndhcplaaDoor
open Go.RowKit Go.Maps
namespace W

theorem stand_key : Tryd.prog.keyType 59 = true := by kernel_rfl
theorem stand_cells : Tryd.prog.cellsOf 59 = 2 := by kernel_rfl
theorem int_cells : Tryd.prog.cellsOf 3 = 1 := by kernel_rfl
theorem stand_row : (59 : TypeId) < Tryd.prog.types.size := of_decide_eq_true (by kernel_rfl)
theorem stand_wide : (match Tryd.prog.underlying 59 with | some (.array _ _) | some (.struct _) => true | _ => false) = true := by rw [Tryd.underlying59]
theorem stand_law : Keyed Tryd.prog 59 := Keyed.of_law (deep_law_laid (by kernel_rfl) (m := 2) (by omega) stand_row (by kernel_rfl) stand_wide)
theorem wf_small {a : Nat} (h : a < 1000) : (Lit.int .i64 (a : Int)).wf = true := by
  simp [Lit.wf, IntKind.min, IntKind.max, IntKind.signed, IntKind.bits]
  omega
abbrev standV (a b : Nat) : Value := .agg #[.int .i64 (a : Int), .int .i64 (b : Int)]
set_option maxRecDepth 100000 in
theorem key_some (a b : Nat) (ha : a < 1000) (hb : b < 1000) : ∃ l, keyOf Tryd.prog 59 (standV a b) = some l := by
  unfold keyOf
  rw [Tryd.underlying59]
  simp only [stand_key]
  have hf : (standV a b).formed Tryd.prog 59 = true := by simp [Value.formed, Tryd.underlying59, stand_cells]
  obtain ⟨d, hd⟩ : ∃ d, Tryd.prog.types.size = d + 1 := ⟨Tryd.prog.types.size - 1, by have : 0 < Tryd.prog.types.size := Nat.lt_of_le_of_lt (Nat.zero_le _) stand_row; omega⟩
  rw [hf, hd]
  simp [Program.keyLits, Tryd.underlying59, Tryd.underlying3, stand_cells, int_cells, Value.cells, wf_small ha, wf_small hb]
/-- What a stand reads as. -/
noncomputable def kl (a b : Nat) : Lit := (keyOf Tryd.prog 59 (standV a b)).getD (.bool false)
theorem key_mk {a b : Nat} (ha : a < 1000) (hb : b < 1000) : keyOf Tryd.prog 59 (standV a b) = some (kl a b) := by
  obtain ⟨l, hl⟩ := key_some a b ha hb
  unfold kl
  rw [hl]
  rfl
theorem kl_inj {a b c d : Nat} (ha : a < 1000) (hb : b < 1000) (hc : c < 1000) (hd : d < 1000) (h : kl a b = kl c d) : a = c ∧ b = d := by
  have h1 := stand_law.inj (key_mk ha hb) (h ▸ key_mk hc hd)
  unfold standV at h1
  simp only [Value.agg.injEq, Array.mk.injEq, List.cons.injEq, Value.int.injEq, true_and, and_true] at h1
  omega
theorem kl_key {a b : Nat} (ha : a < 1000) (hb : b < 1000) : WideAt.IsKeyLit (kl a b) := stand_law.key (key_mk ha hb)
abbrev i64D (i : Int) : DataW Nat := .lit (.int .i64 i)
/-- The map says of each stand of l its place. -/
structure Met (D : DataW Nat) (l : List (Nat × Nat)) : Prop where
  map : IsMap D
  has : ∀ a b, a < 1000 → b < 1000 → Maps.has D (kl a b) = decide ((a, b) ∈ l)
  place : ∀ (i a b : Nat), l[i]? = some (a, b) → a < 1000 → b < 1000 → D.atKey (kl a b) (i64D 0) = i64D (i : Int)
theorem Met.start : Met (.map []) [] := ⟨isMap_empty, fun _ _ _ _ => rfl, fun _ _ _ h => (by simp at h)⟩
theorem Met.next {D : DataW Nat} {l : List (Nat × Nat)} (h : Met D l) {a b : Nat} (ha : a < 1000) (hb : b < 1000) (hn : (a, b) ∉ l) : Met (D.put (kl a b) (i64D (l.length : Int))) (l ++ [(a, b)]) where
  map := h.map.put _ _
  has c d hc hd := by
    by_cases e : (c, d) = (a, b)
    · rw [Prod.mk.injEq] at e
      obtain ⟨rfl, rfl⟩ := e
      rw [has_put_same h.map (kl_key ha hb)]
      simp
    · rw [has_put_other (fun e2 => e (by obtain ⟨h1, h2⟩ := kl_inj hc hd ha hb e2; rw [h1, h2])), h.has c d hc hd, decide_eq_decide, List.mem_append, List.mem_singleton]
      exact ⟨.inl, fun h => h.resolve_right e⟩
  place i c d hi hc hd := by
    rcases Nat.lt_or_ge i l.length with hl | hl
    · rw [List.getElem?_append_left hl] at hi
      have e : ¬ (c, d) = (a, b) := fun e => hn (e ▸ List.mem_of_getElem? hi)
      rw [atKey_put_other (fun e2 => e (by obtain ⟨h1, h2⟩ := kl_inj hc hd ha hb e2; rw [h1, h2]))]
      exact h.place i c d hi hc hd
    · rw [List.getElem?_append_right hl] at hi
      have hi0 : i - l.length = 0 := by
        have := (List.getElem?_eq_some_iff.1 hi).1
        simp at this
        omega
      rw [hi0] at hi
      have e : (a, b) = (c, d) := by simpa using hi
      rw [Prod.mk.injEq] at e
      obtain ⟨rfl, rfl⟩ := e
      rw [atKey_put_same h.map (kl_key ha hb)]
      congr 3
      omega
theorem zero_int (w : World) : (zeroValue 3).run Tryd.prog w = .ok (.int .i64 0) w := by kernel_rfl
end W
end Go.Proofs.YtghdjkpndhcplaaDoor
end
section
namespace Go.Proofs.YtghdjkpndhcplaaDoor
open Go.RowKit Go.Maps
namespace W

/-- At a round's begin: the way so far lies in way, the map knows it, the stand lies in qh. -/
structure Lp (w5 wr : World) (g : P.G) (p : Int) (moves S : List Int) (n m i0 : Nat) (way : Value) (qm : Nat) (l : List (Nat × Nat)) (x y qh : Nat) (D : DataW Nat) : Prop where
  below : Below w5.heap.size w5 wr
  way : OwnI wr w5.heap.size way (l.map fun a => (a.1 : Int))
  map : wr.ownsMap Tryd.prog 59 (plainElem Tryd.prog 3) qm l.length D
  met : Met D l
  here : Box wr qh 59 #[.int .i64 (x : Int), .int .i64 (y : Int)]
  low : w5.heap.size ≤ qm
  high : w5.heap.size ≤ qh
  go : P.Way (P.stepS g p moves S) (i0, 0) l (x, y)
  ins : ∀ a ∈ l, a.1 < n ∧ a.2 < m
  hx : x < n
  hy : y < m
theorem Lp.short {w5 wr : World} {g : P.G} {p : Int} {moves S : List Int} {n m i0 : Nat} {way : Value} {qm : Nat} {l : List (Nat × Nat)} {x y qh : Nat} {D : DataW Nat} (h : Lp w5 wr g p moves S n m i0 way qm l x y qh D) (hn : n ≤ 200) (hm : m ≤ 64) : l.length ≤ 12800 :=
  Nat.le_trans (h.go.short h.ins) (Nat.mul_le_mul hn hm)
theorem map_ne_row {w : World} {lo qm k : Nat} {D : DataW Nat} {way : Value} {zs : List Int} (hm : w.ownsMap Tryd.prog 59 (plainElem Tryd.prog 3) qm k D) (hw : OwnI w lo way zs) : some qm ≠ way.ownBlock := by
  intro e
  obtain ⟨es, clock, hb, -⟩ := hm
  rcases hw.2 with ⟨hv, -⟩ | ⟨g, cap, cur, hv, -, hc, -⟩
  · rw [hv] at e; cases e
  · rw [hv] at e
    have e : some qm = some g := e
    injection e with e
    rw [e, hc] at hb
    cases hb
theorem map_ne_box {w : World} {qm k q : Nat} {t : TypeId} {cs : Array Value} {D : DataW Nat} (hm : w.ownsMap Tryd.prog 59 (plainElem Tryd.prog 3) qm k D) (hb : Box w q t cs) : qm ≠ q := by
  intro e
  obtain ⟨es, clock, hb2, -⟩ := hm
  have hb : w.heap[q]? = some (.cells cs t (0, 0)) := hb
  rw [e, hb] at hb2
  cases hb2
theorem box_ne_row {w : World} {lo q : Nat} {cs : Array Value} {way : Value} {zs : List Int} (hb : Box w q 59 cs) (hw : OwnI w lo way zs) : some q ≠ way.ownBlock := by
  have := own_box hw hb (by decide)
  exact fun e => this e.symm
theorem wf_small2 {a : Nat} (h : a ≤ 12800) : (Lit.int .i64 (a : Int)).wf = true := by
  simp [Lit.wf, IntKind.min, IntKind.max, IntKind.signed, IntKind.bits]
  omega
/-- A row's block is no map's. -/
theorem row_ne_map {w : World} {lo qm k : Nat} {D : DataW Nat} {way : Value} {zs : List Int} (hw : OwnI w lo way zs) (hm : w.ownsMap Tryd.prog 59 (plainElem Tryd.prog 3) qm k D) : way.ownBlock = none ∨ way.ownBlock ≠ some qm := .inr fun e => map_ne_row hm hw e.symm
end W
end Go.Proofs.YtghdjkpndhcplaaDoor
end
