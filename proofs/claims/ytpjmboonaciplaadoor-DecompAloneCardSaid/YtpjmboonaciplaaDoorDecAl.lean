/- Where one player moves alone: it wins where it can come to a cycle of its own. Plain. -/
import Derived.Test.YtpjmboonaciplaaDoorDecA
namespace Go.Proofs.YtpjmboonaciplaaDoor
namespace P
/-- The same game, all positions one player's. -/
def G.alone (g : G) (p : Int) : G := ⟨g.owner.map fun _ => p, g.prio, g.moves⟩
/-- A step of a game. -/
def Step (g : G) (i j : Nat) : Prop := (j : Int) ∈ g.moves.getD i []
/-- A position that tops a cycle. -/
def Tops (g : G) (p : Int) (i : Nat) : Prop := i < g.owner.length ∧ g.prio.getD i 0 % 2 = p ∧ Path (Step g) (fun j => g.prio.getD j 0 ≤ g.prio.getD i 0) i i
/-- From where one comes to a set, in so many steps. -/
def Ahead (g : G) (S : Nat → Prop) : Nat → Nat → Prop
  | 0, i => S i
  | k + 1, i => Ahead g S k i ∨ ∃ j, Step g i j ∧ Ahead g S k j
theorem alone_own {g : G} {p : Int} {i : Nat} (hi : i < g.owner.length) : (g.alone p).owner.getD i 0 = p := by
  show (g.owner.map fun _ => p).getD i 0 = p
  rw [List.getD_eq_getElem?_getD, List.getElem?_map, List.getElem?_eq_getElem hi]
  rfl
theorem alone_right {g : G} (hr : g.Right) {p : Int} (hp : p = 0 ∨ p = 1) : (g.alone p).Right ∧ (g.alone p).owner.length = g.owner.length := by
  have hl : (g.alone p).owner.length = g.owner.length := by show (g.owner.map _).length = _; rw [List.length_map]
  refine ⟨⟨by rw [hl]; exact hr.prio, by rw [hl]; exact hr.moves, by rw [hl]; exact hr.pos, by rw [hl]; exact hr.many, fun i hi => ?_⟩, hl⟩
  rw [hl] at hi
  have h4 := hr.at i hi
  unfold G.check
  rw [hl, alone_own hi]
  show check _ p (g.prio.getD i 0) (g.moves.getD i []) = 0
  unfold check
  rw [if_neg (by omega), if_neg (by omega), if_neg h4.2.2.2.1]
  exact if_pos h4.2.2.2.2
theorem step_in {g : G} (hr : g.Right) {i j : Nat} (h : Step g i j) : i < g.owner.length ∧ j < g.owner.length := by
  have hm := hr.moves
  have hi : i < g.owner.length := by
    refine Classical.byContradiction fun hc => ?_
    unfold Step at h
    rw [List.getD_eq_getElem?_getD, List.getElem?_eq_none (by omega)] at h
    cases h
  have := hr.moves_in hi _ h
  exact ⟨hi, by omega⟩
/-- The player's region is what comes to a cycle of its own. -/
theorem alone_is {g : G} (hr : g.Right) {p q : Int} (hq : q = 1 - p) {R V : Nat → Prop} {mv mv' : Nat → Int} (h1 : WinsIn (g.alone p) (· < g.owner.length) p mv R) (h2 : WinsIn (g.alone p) (· < g.owner.length) q mv' V) (h3 : ∀ i, i < g.owner.length → R i ∨ V i) (i : Nat) : R i ↔ ∃ k, Ahead g (Tops g p) k i := by
  constructor
  · intro hi
    obtain ⟨nx, hnx⟩ : ∃ nx : Nat → Nat, ∀ i, R i → (nx i : Int) = mv i ∧ Step g i (nx i) ∧ R (nx i) := by
      refine ⟨fun i => open Classical in if h : R i then (h1.own i h (alone_own (h1.sub i h))).choose else i, fun i h => ?_⟩
      simp only [dif_pos h]
      exact (h1.own i h (alone_own (h1.sub i h))).choose_spec
    have all : ∀ k, R (turns_ nx i k) := by
      intro k
      induction k with
      | zero => exact hi
      | succ k ih => exact (hnx _ ih).2.2
    obtain ⟨x, hx, hpth⟩ := goes_round (E := fun x y => R x ∧ y = nx x) g.owner.length (turns_ nx i) (fun k => h1.sub _ (all k)) (fun k => ⟨all k, rfl⟩) (fun a b e => by show nx _ = nx _; rw [e]) (fun j => g.prio.getD j 0) (fun j => R j ∧ ∃ k, turns_ nx i k = j) fun k => ⟨all k, k, rfl⟩
    have htop : Tops g p x := by
      refine ⟨h1.sub x hx.1, Classical.byContradiction fun hc => h1.good x hx.1 hc ?_, hpth.imp (fun a b e => by rw [e.2]; exact (hnx a e.1).2.1) fun j hj => hj.2⟩
      exact hpth.imp (fun a b e => ⟨by rw [e.2]; exact (hnx a e.1).2.1, by rw [e.2]; exact h1.sub _ (hnx a e.1).2.2, fun _ => by rw [e.2]; exact (hnx a e.1).1⟩) fun j hj => ⟨hj.1.1, hj.2⟩
    obtain ⟨k, hk⟩ := hx.2
    have back : ∀ k, ∀ m, turns_ nx i (m + k) = x → Ahead g (Tops g p) k (turns_ nx i m) := by
      intro k
      induction k with
      | zero => intro m e; rw [Nat.add_zero] at e; rw [e]; exact htop
      | succ k ih =>
        intro m e
        refine .inr ⟨turns_ nx i (m + 1), (hnx _ (all m)).2.1, ih (m + 1) (by rw [← e]; congr 1; omega)⟩
    exact ⟨k, back k 0 (by rw [Nat.zero_add]; exact hk)⟩
  · rintro ⟨k, hk⟩
    have hin : ∀ k i, Ahead g (Tops g p) k i → i < g.owner.length := by
      intro k
      induction k with
      | zero => exact fun i h => h.1
      | succ k ih =>
        rintro i (h | ⟨j, h, -⟩)
        · exact ih i h
        · exact (step_in hr h).1
    refine (h3 i (hin k i hk)).elim id fun hv => ?_
    exfalso
    have stay : ∀ a b, V a → Step g a b → V b := fun a b ha hs => h2.oth a ha (by rw [alone_own (h2.sub a ha)]; omega) b hs (step_in hr hs).2
    have go : ∀ k i, V i → Ahead g (Tops g p) k i → ∃ x, V x ∧ Tops g p x := by
      intro k
      induction k with
      | zero => exact fun i hv h => ⟨i, hv, h⟩
      | succ k ih =>
        rintro i hv (h | ⟨j, hs, h⟩)
        · exact ih i hv h
        · exact ih j (stay i j hv hs) h
    obtain ⟨x, hx, -, h5, h6⟩ := go k i hv hk
    refine h2.good x hx (by show g.prio.getD x 0 % 2 ≠ q; omega) ?_
    have key : ∀ a b, Path (Step g) (fun j => g.prio.getD j 0 ≤ g.prio.getD x 0) a b → V a → Path (Edge (g.alone p) (· < g.owner.length) q mv') (fun j => V j ∧ (g.alone p).prio.getD j 0 ≤ (g.alone p).prio.getD x 0) a b := by
      intro a b hp
      have one : ∀ {a b}, V a → Step g a b → Edge (g.alone p) (· < g.owner.length) q mv' a b := fun {a b} ha hs => ⟨hs, (step_in hr hs).2, fun ho => by rw [alone_own (h2.sub a ha)] at ho; omega⟩
      induction hp with
      | one e he => exact fun ha => .one (one ha e) ⟨stay _ _ ha e, he⟩
      | more e he _ ih => exact fun ha => .more (one ha e) ⟨stay _ _ ha e, he⟩ (ih (stay _ _ ha e))
    exact key x x h6 hx
theorem Ahead.mono {g : G} {S : Nat → Prop} {k j i : Nat} (h : k ≤ j) (hk : Ahead g S k i) : Ahead g S j i := by
  induction h with
  | refl => exact hk
  | step _ ih => exact .inl ih
theorem bit_with (S : BitVec 256) (y i : Nat) (hy : y < 256) : Bit (S ||| bit (y : Int)) i ↔ Bit S i ∨ i = y := by
  rw [bits_or]
  unfold Bit
  rw [getLsbD_bit, decide_eq_true_eq]
  constructor
  · rintro (h | ⟨-, -, h⟩)
    · exact .inl h
    · exact .inr (by omega)
  · rintro (h | rfl)
    · exact .inl h
    · exact .inr ⟨by omega, by omega, rfl⟩
/-- What is met from a position while what is open is gone through: of x the moves from place k on are still to come. -/
structure Rs (g : G) (n i : Nat) (S : BitVec 256) (O : List Nat) (x k : Nat) : Prop where
  met : ∀ y, Bit S y → y < n ∧ Path (Step g) (fun j => g.prio.getD j 0 ≤ g.prio.getD i 0) i y
  opn : ∀ y ∈ O, y < n ∧ (y = i ∨ Bit S y)
  len : O.length ≤ cntS n S + 1
  done : ∀ a y, (a = i ∨ Bit S a) → a ∉ O → Step g a y → g.prio.getD y 0 ≤ g.prio.getD i 0 → Bit S y ∨ (a = x ∧ (y : Int) ∈ (g.moves.getD x []).drop k)
theorem Rs.start (g : G) {n i : Nat} (hi : i < n) : Rs g n i 0#256 [i] i (g.moves.getD i []).length :=
  ⟨fun y hy => absurd hy (bit_zero y), fun y hy => by have h1 : y = i := (by simpa using hy); exact ⟨by omega, .inl h1⟩, by simp, fun a y ha hn => (hn (by rcases ha with rfl | ha; exact List.mem_cons_self ..; exact absurd ha (bit_zero a))).elim⟩
theorem Rs.pop {g : G} {n i : Nat} {S : BitVec 256} {O : List Nat} {x z : Nat} (h : Rs g n i S (O ++ [x]) z (g.moves.getD z []).length) : Rs g n i S O x 0 ∧ x < n ∧ (x = i ∨ Bit S x) :=
  ⟨⟨h.met, fun y hy => h.opn y (List.mem_append_left _ hy), by have := h.len; rw [List.length_append] at this; simp at this; omega, fun a y ha hn hs hp => by
    by_cases e : a = x
    · exact .inr ⟨e, by rw [List.drop_zero, ← e]; exact hs⟩
    · refine (h.done a y ha (fun hm => ?_) hs hp).imp id fun h2 => ?_
      · rcases List.mem_append.1 hm with hm | hm
        · exact hn hm
        · exact e (by simpa using hm)
      · have := h2.2
        rw [List.drop_length] at this
        cases this⟩, h.opn x (by simp)⟩
theorem mem_getD_ {l : List Int} {k : Nat} (hk : k < l.length) : l.getD k 0 ∈ l := by
  rw [List.getD_eq_getElem?_getD, List.getElem?_eq_getElem hk]
  exact List.getElem_mem hk
theorem drop_split {l : List Int} {k : Nat} (hk : k < l.length) {y : Int} (hy : y ∈ l.drop k) : y = l.getD k 0 ∨ y ∈ l.drop (k + 1) := by
  rw [List.drop_eq_getElem_cons hk] at hy
  rcases List.mem_cons.1 hy with hy | hy
  · left
    rw [hy, List.getD_eq_getElem?_getD, List.getElem?_eq_getElem hk]
    rfl
  · exact .inr hy
section
variable {g : G} {n i : Nat} {S : BitVec 256} {O : List Nat} {x k y : Nat}
theorem Rs.pass (h : Rs g n i S O x k) (hk : k < (g.moves.getD x []).length) (hy : (g.moves.getD x []).getD k 0 = (y : Int)) (hf : ¬ g.prio.getD y 0 ≤ g.prio.getD i 0 ∨ Bit S y) : Rs g n i S O x (k + 1) :=
  ⟨h.met, h.opn, h.len, fun a z ha hn hs hp => by
    rcases h.done a z ha hn hs hp with h1 | ⟨h1, h2⟩
    · exact .inl h1
    · rcases drop_split hk h2 with h3 | h3
      · rw [hy] at h3
        have e : z = y := by omega
        rcases hf with hf | hf
        · exact absurd (e ▸ hp) hf
        · exact .inl (e ▸ hf)
      · exact .inr ⟨h1, h3⟩⟩
theorem Rs.push (h : Rs g n i S O x k) (hn : n ≤ 200) (hx : x = i ∨ Bit S x) (hyn : y < n) (hk : k < (g.moves.getD x []).length) (hy : (g.moves.getD x []).getD k 0 = (y : Int)) (hp : g.prio.getD y 0 ≤ g.prio.getD i 0) (hf : ¬ Bit S y) : Rs g n i (S ||| bit (y : Int)) (O ++ [y]) x (k + 1) := by
  have hb := fun z => bit_with S y z (by omega)
  have hs : Step g x y := by
    unfold Step
    rw [← hy]
    exact mem_getD_ hk
  refine ⟨fun z hz => ?_, fun z hz => ?_, ?_, fun a z ha hno hs2 hp2 => ?_⟩
  · rcases (hb z).1 hz with hz | rfl
    · exact h.met z hz
    · refine ⟨hyn, ?_⟩
      rcases hx with rfl | hx
      · exact .one hs hp
      · exact (h.met x hx).2.trans (.one hs hp)
  · rcases List.mem_append.1 hz with hz | hz
    · obtain ⟨h1, h2⟩ := h.opn z hz
      exact ⟨h1, h2.imp id fun h3 => (hb z).2 (.inl h3)⟩
    · have e : z = y := by simpa using hz
      exact ⟨by omega, .inr ((hb z).2 (.inr e))⟩
  · have h1 := h.len
    have h2 : cntS n S + 1 ≤ cntS n (S ||| bit (y : Int)) := by
      unfold cntS
      refine countP_lt (List.range n) (fun z _ hz => (hb z).2 (.inl hz)) ⟨y, List.mem_range.2 hyn, ?_, (hb y).2 (.inr rfl)⟩
      cases e : S.getLsbD y
      · rfl
      · exact absurd e hf
    rw [List.length_append, List.length_singleton]
    omega
  · have hao : a ∉ O := fun h3 => hno (List.mem_append_left _ h3)
    have hay : a ≠ y := fun e => hno (by rw [e]; simp)
    have ha2 : a = i ∨ Bit S a := ha.imp id fun h3 => ((hb a).1 h3).resolve_right hay
    rcases h.done a z ha2 hao hs2 hp2 with h1 | ⟨h1, h2⟩
    · exact .inl ((hb z).2 (.inl h1))
    · rcases drop_split hk h2 with h3 | h3
      · rw [hy] at h3
        exact .inl ((hb z).2 (.inr (by omega)))
      · exact .inr ⟨h1, h3⟩
theorem Rs.end_ (h : Rs g n i S O x k) (hk : (g.moves.getD x []).length ≤ k) (z : Nat) : Rs g n i S O z (g.moves.getD z []).length :=
  ⟨h.met, h.opn, h.len, fun a y ha hn hs hp => by
    rcases h.done a y ha hn hs hp with h1 | ⟨-, h2⟩
    · exact .inl h1
    · rw [List.drop_eq_nil_of_le hk] at h2
      cases h2⟩
theorem Rs.short (h : Rs g n i S O x k) : O.length ≤ n + 1 := by
  have h1 := h.len
  have h2 := cntS_le n S
  omega
/-- At the end the position is met just if it lies on such a cycle. -/
theorem Rs.told (h : Rs g n i S [] x (g.moves.getD x []).length) : Bit S i ↔ Path (Step g) (fun j => g.prio.getD j 0 ≤ g.prio.getD i 0) i i := by
  refine ⟨fun hi => (h.met i hi).2, fun hp => ?_⟩
  have step : ∀ a y, (a = i ∨ Bit S a) → Step g a y → g.prio.getD y 0 ≤ g.prio.getD i 0 → Bit S y := fun a y ha hs hpr => by
    rcases h.done a y ha (by simp) hs hpr with h1 | ⟨-, h2⟩
    · exact h1
    · rw [List.drop_length] at h2
      cases h2
  have key : ∀ a b, Path (Step g) (fun j => g.prio.getD j 0 ≤ g.prio.getD i 0) a b → (a = i ∨ Bit S a) → Bit S b := by
    intro a b hab
    induction hab with
    | one e he => exact fun ha => step _ _ ha e he
    | more e he _ ih => exact fun ha => ih (.inr (step _ _ ha e he))
  exact key i i hp (.inl rfl)
/-- How much of what is open is left. -/
theorem Rs.room (h : Rs g n i S O x k) (hyn : y < n) (hy : y < 256) (hf : ¬ Bit S y) : cntS n S + 1 ≤ cntS n (S ||| bit (y : Int)) := by
  have _ := h.len
  unfold cntS
  refine countP_lt (List.range n) (fun z _ hz => (bit_with S y z hy).2 (.inl hz)) ⟨y, List.mem_range.2 hyn, ?_, (bit_with S y y hy).2 (.inr rfl)⟩
  cases e : S.getLsbD y
  · rfl
  · exact absurd e hf
end
/-- The positions below k that top a cycle of the player's. -/
def TopsTo (g : G) (p : Int) (k i : Nat) : Prop := i < k ∧ Tops g p i
/-- What is ahead of a set among n is so within n steps and one. -/
theorem ahead_all {g : G} {S : Nat → Prop} (n : Nat) (hin : ∀ k i, Ahead g S k i → i < n) {k i : Nat} (h : Ahead g S k i) : Ahead g S (n + 1) i := by
  classical
  have key : ∀ k, (∃ j, j < k ∧ ∀ i, Ahead g S (j + 1) i → Ahead g S j i) ∨ k ≤ (List.range n).countP fun i => decide (Ahead g S k i) := by
    intro k
    induction k with
    | zero => exact .inr (Nat.zero_le _)
    | succ k ih =>
      rcases ih with ⟨j, h1, h2⟩ | h1
      · exact .inl ⟨j, by omega, h2⟩
      · by_cases hs : ∀ i, Ahead g S (k + 1) i → Ahead g S k i
        · exact .inl ⟨k, Nat.lt_succ_self k, hs⟩
        · obtain ⟨i, hi⟩ := Classical.not_forall.1 hs
          have h2 : Ahead g S (k + 1) i := Classical.byContradiction fun hc => hi fun h => absurd h hc
          have h3 : ¬ Ahead g S k i := fun h => hi fun _ => h
          have := countP_lt (p := fun i => decide (Ahead g S k i)) (q := fun i => decide (Ahead g S (k + 1) i)) (List.range n) (fun x _ hx => by
            rw [decide_eq_true_eq] at hx ⊢
            exact .inl hx) ⟨i, List.mem_range.2 (hin _ i h2), decide_eq_false h3, decide_eq_true h2⟩
          exact .inr (by omega)
  rcases key (n + 1) with ⟨j, hj, hs⟩ | h1
  · have all : ∀ m i, Ahead g S (j + m) i → Ahead g S j i := by
      intro m
      induction m with
      | zero => exact fun i h => h
      | succ m ih =>
        rintro i (h | ⟨y, h1, h2⟩)
        · exact ih i h
        · exact hs i (.inr ⟨y, h1, ih y h2⟩)
    refine Ahead.mono (by omega) (all k i (Ahead.mono (Nat.le_add_left k j) h))
  · have h2 := List.countP_le_length (p := fun i => decide (Ahead g S (n + 1) i)) (l := List.range n)
    rw [List.length_range] at h2
    omega
theorem tops_in {g : G} (hr : g.Right) {p : Int} : ∀ k i, Ahead g (Tops g p) k i → i < g.owner.length := by
  intro k
  induction k with
  | zero => exact fun i h => h.1
  | succ k ih =>
    rintro i (h | ⟨j, h, -⟩)
    · exact ih i h
    · exact (step_in hr h).1
/-- What is won, ahead of position ii of round r. -/
structure Wn (g : G) (p : Int) (W : BitVec 256) (r ii : Nat) : Prop where
  sound : ∀ i, Bit W i → ∃ k, Ahead g (Tops g p) k i
  has : ∀ i, Ahead g (Tops g p) r i → Bit W i
  more : ∀ i, i < ii → Ahead g (Tops g p) (r + 1) i → Bit W i
section
variable {g : G} {p : Int} {W : BitVec 256} {r ii : Nat}
theorem Wn.start (hW : ∀ i, Bit W i ↔ Tops g p i) : Wn g p W 0 0 := ⟨fun i hi => ⟨0, (hW i).1 hi⟩, fun i hi => (hW i).2 hi, fun i hi => absurd hi (Nat.not_lt_zero i)⟩
theorem Wn.next (h : Wn g p W r g.owner.length) (hr : g.Right) : Wn g p W (r + 1) 0 := ⟨h.sound, fun i hi => h.more i (tops_in hr _ i hi) hi, fun i hi => absurd hi (Nat.not_lt_zero i)⟩
theorem Wn.stay (h : Wn g p W r ii) (hn : ¬ ∃ j, Step g ii j ∧ Bit W j) : Wn g p W r (ii + 1) := ⟨h.sound, h.has, fun i hi ha => by
  by_cases e : i = ii
  · subst e
    rcases ha with ha | ⟨j, h1, h2⟩
    · exact h.has i ha
    · exact absurd ⟨j, h1, h.has j h2⟩ hn
  · exact h.more i (by omega) ha⟩
theorem Wn.add (h : Wn g p W r ii) (hii : ii < 256) (hn : ∃ j, Step g ii j ∧ Bit W j) : Wn g p (W ||| bit (ii : Int)) r (ii + 1) := by
  have hb := fun z => bit_with W ii z hii
  refine ⟨fun i hi => ?_, fun i hi => (hb i).2 (.inl (h.has i hi)), fun i hi ha => ?_⟩
  · rcases (hb i).1 hi with hi | rfl
    · exact h.sound i hi
    · obtain ⟨j, h1, h2⟩ := hn
      obtain ⟨k, hk⟩ := h.sound j h2
      exact ⟨k + 1, .inr ⟨j, h1, hk⟩⟩
  · by_cases e : i = ii
    · exact (hb i).2 (.inr e)
    · exact (hb i).2 (.inl (h.more i (by omega) ha))
/-- Behind the last round what is won is the player's region. -/
theorem Wn.told (hr : g.Right) {n : Nat} (hn : g.owner.length = n) (hp : p = 0 ∨ p = 1) (h : Wn g p W (n + 1) 0) {X Y : BitVec 256} {c c1 : List Int} (hb : ∀ i, Bit (full (n : Int)) i ↔ i < n) (ha : Ap (g.alone p) 0 (full (n : Int)) X Y c c1) : (if p = 0 then X else Y) = W := by
  subst hn
  have hl := (alone_right hr hp).2
  have e : (1 : Int) - 0 = 1 := by decide
  have h2 := ha.his
  rw [e] at h2
  have w0 := ha.mine.iff hb fun i => (Iff.rfl : Bit X i ↔ Bit X i)
  have w1 := h2.iff hb fun i => (Iff.rfl : Bit Y i ↔ Bit Y i)
  have hall : ∀ i, i < g.owner.length → Bit X i ∨ Bit Y i := fun i hi => ha.all i ((hb i).2 hi)
  have key : ∀ i, Bit (if p = 0 then X else Y) i ↔ ∃ k, Ahead g (Tops g p) k i := by
    intro i
    rcases hp with rfl | rfl
    · rw [if_pos rfl]
      exact alone_is hr (q := 1) (by decide) w0 w1 hall i
    · rw [if_neg (by decide)]
      exact alone_is hr (q := 0) (by decide) w1 w0 (fun i hi => (hall i hi).symm) i
  refine set_ext fun x _ => (key x).trans ⟨fun ⟨k, hk⟩ => h.has x (ahead_all _ (tops_in hr) hk), fun hx => h.sound x hx⟩
end
end P
end Go.Proofs.YtpjmboonaciplaaDoor
