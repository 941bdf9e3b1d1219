/- With fewer moves, the strategies kept, each wins what it won. Plain. -/
import Derived.Test.YtpjmboonaciplaaDoorDecA
namespace Go.Proofs.YtpjmboonaciplaaDoor
namespace P
/-- Fewer moves of the same game: a winner's strategy serves on where its moves are still there. -/
theorem WinsIn.fewer {g g' : G} (ho : g'.owner = g.owner) (hp : g'.prio = g.prio) (hm : ∀ i x, x ∈ g'.moves.getD i [] → x ∈ g.moves.getD i []) {In R : Nat → Prop} {p : Int} {mv : Nat → Int} (h : WinsIn g In p mv R) (hk : ∀ i, R i → g.owner.getD i 0 = p → mv i ∈ g'.moves.getD i []) : WinsIn g' In p mv R := by
  refine ⟨h.sub, fun i hi ho' => ?_, fun i hi ho' j hj => h.oth i hi (by rw [← ho]; exact ho') j (hm i _ hj), fun i hi hpi hc => ?_⟩
  · rw [ho] at ho'
    obtain ⟨j, h1, -, h3⟩ := h.own i hi ho'
    exact ⟨j, h1, by rw [h1]; exact hk i hi ho', h3⟩
  · rw [hp] at hpi hc
    exact h.good i hi hpi (hc.imp (fun x y e => ⟨hm x _ e.1, e.2.1, fun e2 => e.2.2 (by rw [ho]; exact e2)⟩) fun y hy => hy)
/-- Who wins where stays, as both strategies do. -/
theorem solved_fewer {g g' : G} (hr : g.Right) {n : Nat} (hn : g.owner.length = n) (ho : g'.owner = g.owner) (hp : g'.prio = g.prio) (hm : ∀ i x, x ∈ g'.moves.getD i [] → x ∈ g.moves.getD i []) {X Y X' Y' : BitVec 256} {c c1 c' c1' : List Int} (h : Ap g 0 (full (n : Int)) X Y c c1) (hb : ∀ i, Bit (full (n : Int)) i ↔ i < n)
    (hk0 : ∀ i, Bit X i → g.owner.getD i 0 = 0 → c1.getD i (-1) ∈ g'.moves.getD i []) (hk1 : ∀ i, Bit Y i → g.owner.getD i 0 = 1 → c1.getD i (-1) ∈ g'.moves.getD i []) (h' : Ap g' 0 (full (n : Int)) X' Y' c' c1') : X = X' ∧ Y = Y' := by
  have e : (1 : Int) - 0 = 1 := by decide
  have h2 := h.his
  rw [e] at h2
  have hs : Solved g' (· < n) (Bit X) (Bit Y) := ⟨_, _, (h.mine.fewer ho hp hm hk0).iff hb fun _ => Iff.rfl, (h2.fewer ho hp hm hk1).iff hb fun _ => Iff.rfl, fun i hi => h.all i ((hb i).2 hi)⟩
  have hu := fun i => hs.unique n (fun i hi => hi) (fun i hi => by rw [ho]; exact (hr.at i (by rw [hn]; exact hi)).1) (h'.solved hb) i
  exact ⟨set_ext fun x _ => (hu x).1, set_ext fun x _ => (hu x).2⟩
/-- Rows of moves that are the game's, or one of each. -/
theorem right_rows {g : G} (hr : g.Right) {ls : List (List Int)} (hl : ls.length = g.owner.length) (h : ∀ i, i < g.owner.length → ls.getD i [] = g.moves.getD i [] ∨ ∃ z ∈ g.moves.getD i [], ls.getD i [] = [z]) : (⟨g.owner, g.prio, ls⟩ : G).Right where
  prio := hr.prio
  moves := hl
  pos := hr.pos
  many := hr.many
  each i hi := by
    have h0 := hr.each i hi
    rcases h i hi with h1 | ⟨z, h1, h2⟩
    · unfold G.check at h0 ⊢
      show check _ _ _ (ls.getD i []) = 0
      rw [h1]
      exact h0
    · have h3 := hr.moves_in hi z h1
      have h4 := hr.at i hi
      unfold G.check
      show check _ _ _ (ls.getD i []) = 0
      rw [h2]
      unfold check
      have hrise : rise (g.owner.length : Int) (-1) [z] = true := by
        unfold rise rise
        rw [decide_eq_true (by omega), decide_eq_true h3.2]
        rfl
      rw [if_neg (by show ¬ (g.owner.getD i 0 ≠ 0 ∧ g.owner.getD i 0 ≠ 1); omega), if_neg (by show ¬ (g.prio.getD i 0 < 0 ∨ 7 < g.prio.getD i 0); omega), if_neg (by simp)]
      exact if_pos hrise
/-- Who wins a position. -/
def winOf (X : BitVec 256) (i : Nat) : Int := if Bit X i then 0 else 1
/-- All other moves of a winner taken away. -/
def hRow (g : G) (X : BitVec 256) (c : List Int) (i : Nat) : List Int := if g.owner.getD i 0 = winOf X i then [c.getD i (-1)] else g.moves.getD i []
/-- All of a loser's moves but one taken away: which one, says e. -/
def kRow (g : G) (X : BitVec 256) (e : Nat → Nat) (i : Nat) : List Int := if g.owner.getD i 0 = winOf X i then g.moves.getD i [] else [(g.moves.getD i []).getD (e i) 0]
section
variable {g : G} {n : Nat} (hn : g.owner.length = n) {X Y X' Y' : BitVec 256} {c c1 c' c1' : List Int} (hb : ∀ i, Bit (full (n : Int)) i ↔ i < n) (h : Ap g 0 (full (n : Int)) X Y c c1)
include hb h in
theorem win_move {i : Nat} (hi : i < n) (ho : g.owner.getD i 0 = winOf X i) : c1.getD i (-1) ∈ g.moves.getD i [] := by
  have e : (1 : Int) - 0 = 1 := by decide
  have h2 := h.his
  rw [e] at h2
  unfold winOf at ho
  by_cases hx : Bit X i
  · rw [if_pos hx] at ho
    obtain ⟨j, e1, e2, -⟩ := h.mine.own i hx ho
    rw [show c1.getD i (-1) = (j : Int) from e1.symm]
    exact e2
  · rw [if_neg hx] at ho
    have hy := (h.all i ((hb i).2 hi)).resolve_left hx
    obtain ⟨j, e1, e2, -⟩ := h2.own i hy ho
    rw [show c1.getD i (-1) = (j : Int) from e1.symm]
    exact e2
theorem rows_at {n : Nat} {f : Nat → List Int} {i : Nat} (hi : i < n) : ((List.range n).map f).getD i [] = f i := by
  rw [List.getD_eq_getElem?_getD, List.getElem?_map, List.getElem?_range hi]
  rfl
theorem rows_past {n : Nat} {f : Nat → List Int} {i : Nat} (hi : n ≤ i) : ((List.range n).map f).getD i [] = [] := by
  rw [List.getD_eq_getElem?_getD, List.getElem?_eq_none (by simpa using hi)]
  rfl
/-- The two games: rows that hold the winner's move, and moves of the game alone. -/
theorem rows_same (hr : g.Right) (hn : g.owner.length = n) {f : Nat → List Int} (hf : ∀ i, i < n → ∀ x ∈ f i, x ∈ g.moves.getD i []) (hw : ∀ i, i < n → g.owner.getD i 0 = winOf X i → c1.getD i (-1) ∈ f i)
    (hb : ∀ i, Bit (full (n : Int)) i ↔ i < n) (h : Ap g 0 (full (n : Int)) X Y c c1) (h' : Ap ⟨g.owner, g.prio, (List.range n).map f⟩ 0 (full (n : Int)) X' Y' c' c1') : X = X' ∧ Y = Y' := by
  have e : (1 : Int) - 0 = 1 := by decide
  have h2 := h.his
  rw [e] at h2
  have hown : ∀ i, Bit (full (n : Int)) i → g.owner.getD i 0 = 0 ∨ g.owner.getD i 0 = 1 := fun i hi => (hr.at i (by rw [hn]; exact (hb i).1 hi)).1
  refine solved_fewer (g' := ⟨g.owner, g.prio, (List.range n).map f⟩) hr hn rfl rfl (fun i x hx => ?_) h hb (fun i hi ho => ?_) (fun i hi ho => ?_) h'
  · rcases Nat.lt_or_ge i n with hin | hin
    · exact hf i hin x (by rw [← rows_at (f := f) hin]; exact hx)
    · have hx2 : x ∈ ((List.range n).map f).getD i [] := hx
      rw [rows_past hin] at hx2
      cases hx2
  · have hin := (hb i).1 (h.mine.sub i hi)
    show _ ∈ ((List.range n).map f).getD i []
    rw [rows_at hin]
    exact hw i hin (by rw [ho]; unfold winOf; rw [if_pos hi])
  · have hin := (hb i).1 (h2.sub i hi)
    have hx : ¬ Bit X i := fun hx => no_both n (fun i hi => (hb i).1 hi) hown h.mine h2 hx hi
    show _ ∈ ((List.range n).map f).getD i []
    rw [rows_at hin]
    exact hw i hin (by rw [ho]; unfold winOf; rw [if_neg hx])
end
end P
end Go.Proofs.YtpjmboonaciplaaDoor
