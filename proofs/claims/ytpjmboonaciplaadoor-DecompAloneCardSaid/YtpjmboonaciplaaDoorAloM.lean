/- What lies in memory while DecompAlone goes on. -/
import Derived.Test.YtpjmboonaciplaaDoorDecAl
import Derived.Test.YtpjmboonaciplaaDoorOwnL
import Derived.Test.YtpjmboonaciplaaDoorGrowR
import Derived.Test.YtpjmboonaciplaaDoorSlA
import Derived.Test.YtpjmboonaciplaaDoorEq
import Derived.Deep.Cut
import Derived.Lib.Hide
import Derived.Deep.QuietTactic
import Derived.BigQuiet
import Derived.StillTailTactics
namespace Go.Proofs.YtpjmboonaciplaaDoor
open Go.RowKit
namespace W

theorem own_init {w : World} {lo : Nat} {e : TypeId} {ao : Option Addr} {n k : Nat} {xs : List Value} {x : Value} (h : w.ownsRow lo e 1 (.slice ao (n + 1) k) (n + 1) (xs ++ [x])) : w.ownsRow lo e 1 (.slice ao n k) n xs := by
  obtain ⟨h1, h2⟩ := h
  have hl : xs.length = n := by
    rw [List.length_append] at h1
    simp at h1
    omega
  refine ⟨by omega, ?_⟩
  rcases h2 with ⟨-, h2⟩ | ⟨g, cap, cur, e1, h3, h4, h5, h6, h7, h8⟩
  · omega
  · injection e1 with e1 e2 e3
    subst e1 e3
    refine .inr ⟨g, k, cur, rfl, h3, h4, by omega, h6, h7, ?_⟩
    rw [Nat.mul_one] at h8 ⊢
    have h9 : (cur.toList.take (n + 1)).take n = (xs ++ [x]).take n := by rw [h8]
    rw [List.take_take, Nat.min_eq_left (Nat.le_succ n), List.take_append_of_le_length (by omega)] at h9
    rw [h9]
    exact List.take_of_length_le (by omega)
/-- The set that is met and what is open, while one position is looked at: all is newer than wb. -/
structure LA (wb wi : World) (qr : Nat) (S : BitVec 256) (O : List Nat) (ov : Value) : Prop where
  low : Below wb.heap.size wb wi
  box : Box wi qr 45 #[.int .u64 (P.wrd S 0), .int .u64 (P.wrd S 1), .int .u64 (P.wrd S 2), .int .u64 (P.wrd S 3)]
  open_ : wi.ownsRow wb.heap.size 3 1 ov O.length (O.map fun (y : Nat) => Value.int .i64 (y : Int))
  qlo : wb.heap.size ≤ qr
section
variable {wb wi w7 : World} {qr : Nat} {S S' : BitVec 256} {O : List Nat} {ov V : Value}
theorem LA.on (h : LA wb wi qr S O ov) (hg : wi.grownBy w7 none) : LA wb w7 qr S O ov :=
  ⟨h.low.trans ((below_of_grown hg).mono h.low.size), h.box.keep hg, own_grown h.open_ hg, h.qlo⟩
theorem LA.size (h : LA wb wi qr S O ov) : wb.heap.size ≤ wi.heap.size := h.low.size
theorem LA.put (h : LA wb wi qr S O ov) (S' : BitVec 256) : LA wb ((((wi.setCell ⟨qr, 0, none⟩ (.int .u64 (P.wrd S' 0))).setCell ⟨qr, 1, none⟩ (.int .u64 (P.wrd S' 1))).setCell ⟨qr, 2, none⟩ (.int .u64 (P.wrd S' 2))).setCell ⟨qr, 3, none⟩ (.int .u64 (P.wrd S' 3))) qr S' O ov :=
  ⟨h.low.trans (below4 _ _ _ _ h.qlo), box4 h.box _ _ _ _, own_set (own_set (own_set (own_set h.open_ h.box (by decide) 0 _) (h.box.set 0 _) (by decide) 1 _) ((h.box.set 0 _).set 1 _) (by decide) 2 _) (((h.box.set 0 _).set 1 _).set 2 _) (by decide) 3 _, h.qlo⟩
theorem LA.push (h : LA wb wi qr S O ov) {y : Nat} (hgr : wi.grownBy w7 ov.ownBlock) (hn : w7.ownsRow wb.heap.size 3 1 V (O.length + 1) (O.map (fun (y : Nat) => Value.int .i64 (y : Int)) ++ [Value.int .i64 (y : Int)])) : LA wb w7 qr S (O ++ [y]) V :=
  ⟨h.low.grown hgr h.size (fun p hp => (own_lt h.open_ p hp).1), h.box.grown hgr (fun e => own_box h.open_ h.box (by decide) e.symm), by rw [List.map_append, List.length_append]; exact hn, h.qlo⟩
theorem LA.pop {ao : Option Addr} {m k x : Nat} (h : LA wb wi qr S (O ++ [x]) (.slice ao (m + 1) k)) (hm : O.length = m) : LA wb wi qr S O (.slice ao m k) :=
  ⟨h.low, h.box, by
    have h1 := h.open_
    rw [List.map_append, List.length_append, List.length_singleton, hm] at h1
    rw [hm]
    exact own_init h1, h.qlo⟩
end
/-- The memory ahead of position k: h's owners are given away as far as k, won is W. -/
structure FA (wf wr : World) (lo hb qw n hk : Nat) (B C : Value) (L : List Value) (g : P.G) (p : Int) (k : Nat) (W : BitVec 256) : Prop where
  keep : Rk.Keeps (KX wf.heap.size [hb, qw]) wf wr
  h : OwnG wr lo (.slice (some ⟨hb, 0, none⟩) n hk) B C L (g.given p k)
  won : Box wr qw 45 #[.int .u64 (P.wrd W 0), .int .u64 (P.wrd W 1), .int .u64 (P.wrd W 2), .int .u64 (P.wrd W 3)]
section
variable {wf wr w8 : World} {lo hb qw n hk : Nat} {B C : Value} {L : List Value} {g : P.G} {p : Int} {k : Nat} {W W' : BitVec 256}
theorem FA.on (h : FA wf wr lo hb qw n hk B C L g p k W) (hg : wr.grownBy w8 none) : FA wf w8 lo hb qw n hk B C L g p k W :=
  ⟨h.keep.trans (kx_below_of (below_of_grown hg)), h.h.grown hg, h.won.keep hg⟩
theorem FA.give (h : FA wf wr lo hb qw n hk B C L g p k W) (hkn : k < g.owner.length) : FA wf (wr.setCell ⟨hb, k, none⟩ (.int .i64 p)) lo hb qw n hk B C L g p (k + 1) W :=
  ⟨h.keep.trans (kx_set wr (.inl (by simp)) k _), h.h.give hkn, h.won.far (fun e => own_box h.h.owner h.won (by decide) (by rw [e]; rfl)) _⟩
theorem FA.put (h : FA wf wr lo hb qw n hk B C L g p k W) (W' : BitVec 256) : FA wf ((((wr.setCell ⟨qw, 0, none⟩ (.int .u64 (P.wrd W' 0))).setCell ⟨qw, 1, none⟩ (.int .u64 (P.wrd W' 1))).setCell ⟨qw, 2, none⟩ (.int .u64 (P.wrd W' 2))).setCell ⟨qw, 3, none⟩ (.int .u64 (P.wrd W' 3))) lo hb qw n hk B C L g p k W' :=
  ⟨h.keep.trans (kx4 _ _ _ _ (.inl (by simp))), (((h.h.set h.won (by decide) (by decide) 0 _).set (h.won.set 0 _) (by decide) (by decide) 1 _).set ((h.won.set 0 _).set 1 _) (by decide) (by decide) 2 _).set (((h.won.set 0 _).set 1 _).set 2 _) (by decide) (by decide) 3 _, box4 h.won _ _ _ _⟩
theorem FA.cell (h : FA wf wr lo hb qw n hk B C L g p k W) {j : Nat} (hj : j < g.owner.length) : ∃ x, wr.cell? ⟨hb, j, none⟩ = some (.int .i64 x) ∧ wr.frozen? ⟨hb, j, none⟩ = false := h.h.cellO (by rw [P.G.given_len]; exact hj)
end
def lenOf13 : Value → Nat
  | .slice _ n _ => n
  | _ => 0
/-- How many numbers below n the box's set has, read from memory. -/
noncomputable def metAt (w : World) (q n : Nat) : Nat := open Classical in if h : ∃ S : BitVec 256, Box w q 45 #[.int .u64 (P.wrd S 0), .int .u64 (P.wrd S 1), .int .u64 (P.wrd S 2), .int .u64 (P.wrd S 3)] then P.cntS n h.choose else 0
theorem metAt_box {w : World} {q n : Nat} {S : BitVec 256} (h : Box w q 45 #[.int .u64 (P.wrd S 0), .int .u64 (P.wrd S 1), .int .u64 (P.wrd S 2), .int .u64 (P.wrd S 3)]) : metAt w q n = P.cntS n S := by
  have hex : ∃ S : BitVec 256, Box w q 45 #[.int .u64 (P.wrd S 0), .int .u64 (P.wrd S 1), .int .u64 (P.wrd S 2), .int .u64 (P.wrd S 3)] := ⟨S, h⟩
  unfold metAt
  rw [dif_pos hex]
  have h2 := hex.choose_spec
  obtain ⟨T, hT⟩ : ∃ T, hex.choose = T := ⟨_, rfl⟩
  rw [hT] at h2 ⊢
  have c0 := (h2.cell 0 (.int .u64 (P.wrd T 0)) rfl).symm.trans (h.cell 0 (.int .u64 (P.wrd S 0)) rfl)
  have c1 := (h2.cell 1 (.int .u64 (P.wrd T 1)) rfl).symm.trans (h.cell 1 (.int .u64 (P.wrd S 1)) rfl)
  have c2 := (h2.cell 2 (.int .u64 (P.wrd T 2)) rfl).symm.trans (h.cell 2 (.int .u64 (P.wrd S 2)) rfl)
  have c3 := (h2.cell 3 (.int .u64 (P.wrd T 3)) rfl).symm.trans (h.cell 3 (.int .u64 (P.wrd S 3)) rfl)
  simp only [Option.some.injEq, Value.int.injEq, true_and] at c0 c1 c2 c3
  rw [P.wrd_eq4 c0 c1 c2 c3]
end W
end Go.Proofs.YtpjmboonaciplaaDoor
