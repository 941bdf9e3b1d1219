/- A region that draws its order, shown operation by operation: of each operation's value something is said that no other operation spoils; the last one waits for all. The rule for regions that draw their order, said of what is kept: which blocks a special operation leaves alone is told by what lies in them. The rule for regions that draw their order, where the last operations come in their turn, and may be guarded: they are walked as a plain region's. -/
import Derived.Orders
import Derived.RegionTactic
import Derived.Laws.AppendOwn
import Derived.Maps.AppendAt
import Derived.Tactics
section
namespace Go.Proofs.YtghdjkpndhcplaaDoor
namespace Rg

/-- The frame behind operations that have left these values. -/
def putAll (vals : Nat → Value) : List Oper → Nat → Act → Act
  | [], _, a => a
  | o :: l, k, a => putAll vals l (k + 1) (a.put o.dst (vals k))

/-- Which operation fills a slot. -/
def prodOf (t : Tmp) : List Oper → Nat → Option Nat
  | [], _ => none
  | o :: l, k => match o.dst with
    | some d => if Nat.beq d t = true then some k else prodOf t l (k + 1)
    | none => prodOf t l (k + 1)

def distinct : List Oper → Bool
  | [] => true
  | o :: l => (match o.dst with | some d => (prodOf d l 0).isNone | none => true) && distinct l

theorem prodOf_shift (t : Tmp) : ∀ (l : List Oper) (k m : Nat), prodOf t l (k + m) = (prodOf t l k).map (· + m)
  | [], _, _ => rfl
  | o :: l, k, m => by
    unfold prodOf
    cases hd : o.dst with
    | none => simp only []; rw [show k + m + 1 = k + 1 + m by omega]; exact prodOf_shift t l (k + 1) m
    | some d =>
      simp only []
      by_cases hb : Nat.beq d t = true
      · simp [hb]
      · simp only [hb]
        rw [show k + m + 1 = k + 1 + m by omega]
        exact prodOf_shift t l (k + 1) m

theorem prodOf_none_any {t : Tmp} {l : List Oper} {k m : Nat} (h : prodOf t l k = none) : prodOf t l m = none := by
  have h0 : prodOf t l 0 = none := by
    have e := prodOf_shift t l 0 k
    rw [Nat.zero_add, h] at e
    cases hp : prodOf t l 0 with
    | none => rfl
    | some x => rw [hp] at e; cases e
  have e := prodOf_shift t l 0 m
  rw [Nat.zero_add, h0] at e
  exact e

theorem prodOf_cons_none {t : Tmp} {o : Oper} {l : List Oper} {k : Nat} (h : prodOf t (o :: l) k = none) : o.dst ≠ some t ∧ prodOf t l (k + 1) = none := by
  unfold prodOf at h
  cases hd : o.dst with
  | none => rw [hd] at h; exact ⟨(by simp), h⟩
  | some d =>
    rw [hd] at h
    simp only [] at h
    by_cases hb : Nat.beq d t = true
    · rw [if_pos hb] at h; cases h
    · rw [if_neg hb] at h
      refine ⟨fun e => hb ?_, h⟩
      injection e with e
      rw [e]
      exact Nat.beq_refl t

theorem put_eval_ne (a : Act) {x : Option Tmp} {t : Tmp} (v : Value) (h : x ≠ some t) : (a.put x v).eval (.tmp t) = a.eval (.tmp t) :=
  Act.eval_put fun d hd he => h (by injection he with he; rw [hd, he])

theorem put_eval_same (a : Act) {t : Tmp} (v : Value) (h : t < a.tmps.size) : (a.put (some t) v).eval (.tmp t) = v := by
  simp [Act.eval, Act.put, h]

theorem put_size (a : Act) (x : Option Tmp) (v : Value) : (a.put x v).tmps.size = a.tmps.size := by
  cases x <;> simp [Act.put]

theorem putAll_size (vals : Nat → Value) : ∀ (l : List Oper) (k : Nat) (a : Act), (putAll vals l k a).tmps.size = a.tmps.size
  | [], _, _ => rfl
  | o :: l, k, a => by rw [putAll, putAll_size vals l, put_size]

theorem eval_none (vals : Nat → Value) (t : Tmp) : ∀ (l : List Oper) (k : Nat) (a : Act), prodOf t l k = none → (putAll vals l k a).eval (.tmp t) = a.eval (.tmp t)
  | [], _, _, _ => rfl
  | o :: l, k, a, h => by
    obtain ⟨h1, h2⟩ := prodOf_cons_none h
    rw [putAll, eval_none vals t l (k + 1) _ h2]
    exact put_eval_ne a _ h1

theorem eval_some (vals : Nat → Value) (t : Tmp) : ∀ (l : List Oper) (k j : Nat) (a : Act), distinct l = true → prodOf t l k = some j → t < a.tmps.size → (putAll vals l k a).eval (.tmp t) = vals j
  | [], _, _, _, _, h, _ => by cases h
  | o :: l, k, j, a, hd, h, ht => by
    unfold distinct at hd
    simp only [Bool.and_eq_true] at hd
    obtain ⟨hd1, hd2⟩ := hd
    unfold prodOf at h
    rw [putAll]
    cases hdst : o.dst with
    | none =>
      rw [hdst] at h
      exact eval_some vals t l (k + 1) j _ hd2 h (by rw [put_size]; exact ht)
    | some d =>
      rw [hdst] at h hd1
      simp only [] at h hd1
      by_cases hb : Nat.beq d t = true
      · rw [if_pos hb] at h
        obtain rfl : d = t := Nat.eq_of_beq_eq_true hb
        injection h with h
        subst h
        rw [eval_none vals d l (k + 1) _ (prodOf_none_any (Option.isNone_iff_eq_none.1 hd1))]
        exact put_eval_same a _ ht
      · rw [if_neg hb] at h
        exact eval_some vals t l (k + 1) j _ hd2 h (by rw [put_size]; exact ht)

theorem putAll_put (vals : Nat → Value) (x : Option Tmp) (v : Value) : ∀ (l : List Oper) (k : Nat) (a : Act), (∀ d, x = some d → prodOf d l 0 = none) → (putAll vals l k a).put x v = putAll vals l k (a.put x v)
  | [], _, _, _ => rfl
  | o :: l, k, a, h => by
    rw [putAll, putAll, putAll_put vals x v l (k + 1) _ (fun d hd => prodOf_none_any (prodOf_cons_none (h d hd)).2)]
    congr 1
    refine Act.put_comm a (vals k) v fun d hd hx => ?_
    exact (prodOf_cons_none (h d hx)).1 hd

theorem putAll_congr (f g : Nat → Value) : ∀ (l : List Oper) (k : Nat) (a : Act), (∀ n, k ≤ n → f n = g n) → putAll f l k a = putAll g l k a
  | [], _, _, _ => rfl
  | o :: l, k, a, h => by
    rw [putAll, putAll, h k (Nat.le_refl k)]
    exact putAll_congr f g l (k + 1) _ fun n hn => h n (by omega)

theorem put_put (a : Act) (x : Option Tmp) (v u : Value) : (a.put x v).put x u = a.put x u := by
  cases x with
  | none => rfl
  | some d =>
    have e : (a.tmps.setIfInBounds d v).setIfInBounds d u = a.tmps.setIfInBounds d u := by
      apply Array.ext_getElem?
      intro i
      by_cases hi : d = i
      · subst hi
        simp [Array.getElem?_setIfInBounds]
      · rw [Array.getElem?_setIfInBounds_ne hi, Array.getElem?_setIfInBounds_ne hi, Array.getElem?_setIfInBounds_ne hi]
    simp [Act.put, e]

theorem putAll_upd (vals : Nat → Value) (v : Value) : ∀ (l : List Oper) (k i : Nat) (o : Oper) (a : Act), distinct l = true → l[i]? = some o →
    (putAll vals l k a).put o.dst v = putAll (fun n => if n = k + i then v else vals n) l k a
  | [], _, _, _, _, _, h => by simp at h
  | o' :: l, k, 0, o, a, hd, h => by
    simp at h
    subst h
    unfold distinct at hd
    simp only [Bool.and_eq_true] at hd
    obtain ⟨hd1, hd2⟩ := hd
    rw [putAll, putAll, putAll_put _ _ _ _ _ _ (fun d hx => by rw [hx] at hd1; exact Option.isNone_iff_eq_none.1 hd1), put_put]
    simp only [Nat.add_zero, if_true]
    exact putAll_congr _ _ l (k + 1) _ fun n hn => by rw [if_neg (by omega)]
  | o' :: l, k, i + 1, o, a, hd, h => by
    unfold distinct at hd
    simp only [Bool.and_eq_true] at hd
    rw [putAll, putAll, putAll_upd vals v l (k + 1) i o _ hd.2 (by simpa using h)]
    rw [if_neg (by omega)]
    exact putAll_congr _ _ l (k + 1) _ fun n hn => by rw [show k + 1 + i = k + (i + 1) by omega]

theorem putAll_start (a : Act) : ∀ (l : List Oper) (k : Nat), (∀ o ∈ l, ∀ d, o.dst = some d → d < a.tmps.size) → ∃ vals : Nat → Value, a = putAll vals l k a
  | [], _, _ => ⟨fun _ => undef, rfl⟩
  | o :: l, k, h => by
    obtain ⟨vals, hv⟩ := putAll_start a l (k + 1) fun o' ho' => h o' (List.mem_cons_of_mem _ ho')
    refine ⟨fun n => if n = k then (match o.dst with | some d => a.tmps.getD d undef | none => undef) else vals n, ?_⟩
    rw [putAll]
    have e : a.put o.dst (if k = k then (match o.dst with | some d => a.tmps.getD d undef | none => undef) else vals k) = a := by
      rw [if_pos rfl]
      cases hd : o.dst with
      | none => rfl
      | some d =>
        have hlt := h o (List.mem_cons_self ..) d hd
        have : a.tmps.setIfInBounds d (a.tmps.getD d undef) = a.tmps := by
          apply Array.ext_getElem?
          intro i
          by_cases hi : d = i
          · subst hi
            simp [hlt]
          · rw [Array.getElem?_setIfInBounds_ne hi]
        show Act.mk (a.tmps.setIfInBounds d (a.tmps.getD d undef)) a.defers = a
        rw [this]
    rw [e]
    conv => lhs; rw [hv]
    exact putAll_congr _ _ l (k + 1) a fun n hn => by rw [if_neg (by omega)]

/-! ### What is asked of a region, by looking -/

def bound (o : Oper) : List Nat := (o.after.toList.filter (Region.binds .any)).map (·.on)

/-- Of one operation: no guard; it waits for earlier ones alone, and for each that fills a slot which it reads. -/
def okOp (pre : List Oper) (k : Nat) (o : Oper) : Bool :=
  o.guard.isNone && (bound o).all (fun j => Nat.blt j k) && o.op.operands.toList.all fun x => match x with
    | .tmp t => match prodOf t pre 0 with
      | some j => (bound o).contains j
      | none => true
    | _ => true

def okAll (pre : List Oper) : Nat → List Oper → Bool
  | _, [] => true
  | k, o :: l => okOp pre k o && okAll pre (k + 1) l

/-- Which operations a list of operations waits for, gone through from the last one down. -/
def marked (ops : List Oper) : Nat → List Nat → List Nat
  | 0, acc => acc
  | k + 1, acc => marked ops k (if acc.contains k then (match ops[k]? with | some o => bound o ++ acc | none => acc) else acc)

def okTail (ops : List Oper) : Nat → List Oper → Bool
  | _, [] => true
  | k, o :: l => ((List.range k).all fun j => (marked ops k (bound o)).contains j) && okTail ops (k + 1) l

def ok (pre : List Oper) (last : Oper) (tl : List Oper) : Bool :=
  okAll pre 0 (pre ++ last :: tl) && distinct pre && okTail (pre ++ last :: tl) pre.length (last :: tl)

theorem okTail_at {ops : List Oper} : ∀ {l : List Oper} {k i : Nat} {o : Oper}, okTail ops k l = true → l[i]? = some o → ∀ j, j < k + i → j ∈ marked ops (k + i) (bound o)
  | [], _, _, _, _, h, _, _ => by simp at h
  | _ :: _, k, 0, o, h, hi, j, hj => by
    simp at hi; subst hi
    unfold okTail at h
    simp only [Bool.and_eq_true] at h
    have := List.all_eq_true.1 h.1 j (List.mem_range.2 hj)
    simpa using this
  | o' :: l, k, i + 1, o, h, hi, j, hj => by
    unfold okTail at h
    simp only [Bool.and_eq_true] at h
    have := okTail_at h.2 (by simpa using hi) j (by omega)
    rw [show k + (i + 1) = k + 1 + i by omega]
    exact this

/-- The operations behind the others, one by one. -/
def runTail (P : Program) (Q : Exit → Act → World → Prop) : List Oper → Act → World → Prop
  | [], a, w => Q .normal a w
  | o :: l, a, w => o.wp P a w (fun a' w' => runTail P Q l a' w') Q

theorem okAll_at {pre : List Oper} : ∀ {l : List Oper} {k i : Nat} {o : Oper}, okAll pre k l = true → l[i]? = some o → okOp pre (k + i) o = true
  | [], _, _, _, _, h => by simp at h
  | _ :: _, k, 0, o, h, hi => by
    simp at hi; subst hi
    unfold okAll at h
    simp only [Bool.and_eq_true] at h
    exact h.1
  | o' :: l, k, i + 1, o, h, hi => by
    unfold okAll at h
    simp only [Bool.and_eq_true] at h
    rw [show k + (i + 1) = k + 1 + i by omega]
    exact okAll_at h.2 (by simpa using hi)

theorem mem_bound {o : Oper} {j : Nat} : j ∈ bound o ↔ ∃ e ∈ o.after, Region.binds .any e = true ∧ e.on = j := by
  unfold bound
  simp only [List.mem_map, List.mem_filter, Array.mem_toList_iff]
  constructor
  · rintro ⟨e, ⟨h1, h2⟩, h3⟩; exact ⟨e, h1, h2, h3⟩
  · rintro ⟨e, h1, h2, h3⟩; exact ⟨e, ⟨h1, h2⟩, h3⟩

theorem marked_sub {ops : List Oper} {L : Nat → Prop} (hdown : ∀ i o, ops[i]? = some o → L i → ∀ j ∈ bound o, L j) : ∀ (k : Nat) (acc : List Nat), (∀ j ∈ acc, L j) → ∀ j ∈ marked ops k acc, L j
  | 0, acc, h => h
  | k + 1, acc, h => by
    rw [marked]
    refine marked_sub hdown k _ ?_
    by_cases hc : acc.contains k = true
    · rw [if_pos hc]
      cases ho : ops[k]? with
      | none => exact h
      | some o =>
        intro j hj
        rcases List.mem_append.1 hj with hj | hj
        · exact hdown k o ho (h k (by simpa using hc)) j hj
        · exact h j hj
    · rw [if_neg hc]; exact h

/-! ### What is to be shown -/
section
variable (P : Program)

/-- What is known of what an operation reads. -/
def fact (pre : List Oper) (a0 A : Act) (vals : Nat → Value) : Operand → Prop
  | .tmp t => match prodOf t pre 0 with
    | some j => A.eval (.tmp t) = vals j
    | none => A.eval (.tmp t) = a0.eval (.tmp t)
  | _ => True

def facts (pre : List Oper) (a0 A : Act) (vals : Nat → Value) : List Operand → Prop
  | [] => True
  | x :: l => fact pre a0 A vals x ∧ facts pre a0 A vals l

theorem facts_of {pre : List Oper} {a0 A : Act} {vals : Nat → Value} : ∀ {l : List Operand}, (∀ x ∈ l, fact pre a0 A vals x) → facts pre a0 A vals l
  | [], _ => trivial
  | x :: _, h => ⟨h x (List.mem_cons_self ..), facts_of fun y hy => h y (List.mem_cons_of_mem _ hy)⟩

/-- The values of what an operation waits for. -/
def depsOf (pre : List Oper) (k : Nat) (vals : Nat → Value) : List Value := match pre[k]? with
  | some o => (bound o).map vals
  | none => []

/-- What is said of operation k's value: 'S' speaks of the value, of the values of what it waits for, and of the world. -/
def Sat (pre : List Oper) (S : Nat → Value → List Value → World → Prop) (vals : Nat → Value) (w : World) (k : Nat) : Prop := S k (vals k) (depsOf pre k vals) w

def needs (pre : List Oper) (S : Nat → Value → List Value → World → Prop) (vals : Nat → Value) (w : World) : List Nat → Prop
  | [] => True
  | j :: l => Sat pre S vals w j ∧ needs pre S vals w l

theorem needs_of {pre : List Oper} {S : Nat → Value → List Value → World → Prop} {vals : Nat → Value} {w : World} : ∀ {l : List Nat}, (∀ j ∈ l, Sat pre S vals w j) → needs pre S vals w l
  | [], _ => trivial
  | j :: _, h => ⟨h j (List.mem_cons_self ..), needs_of fun y hy => h y (List.mem_cons_of_mem _ hy)⟩

/-- Of one operation: carried out where what it waits for has been done, it leaves a value of which its own is said; the row 'row' is written by operation 'sp' alone. -/
def Ob (pre : List Oper) (S : Nat → Value → List Value → World → Prop) (w0 : World) (row : Option Nat) (sp : Nat) (a0 : Act) (Q : Exit → Act → World → Prop) (k : Nat) (o : Oper) : Prop :=
  ∀ (A : Act) (w : World) (K : Act → World → Prop) (vals : Nat → Value), facts pre a0 A vals o.op.operands.toList → needs pre S vals w (bound o) → w0.grownBy w (if Nat.beq k sp then none else row) →
    (∀ v w', w.grownBy w' (if Nat.beq k sp then row else none) → S k v ((bound o).map vals) w' → K (A.put o.dst v) w') → o.wp P A w K Q

def Obs (pre : List Oper) (S : Nat → Value → List Value → World → Prop) (w0 : World) (row : Option Nat) (sp : Nat) (a0 : Act) (Q : Exit → Act → World → Prop) : Nat → List Oper → Prop
  | _, [] => True
  | k, o :: l => Ob P pre S w0 row sp a0 Q k o ∧ Obs pre S w0 row sp a0 Q (k + 1) l

/-- What is said of a value stays: behind every operation but its own. -/
def Stays (S : Nat → Value → List Value → World → Prop) (w0 : World) (row : Option Nat) (sp k : Nat) : Prop :=
  ∀ v ds w w', w0.heap.size ≤ w.heap.size → w.grownBy w' (if Nat.beq k sp then none else row) → S k v ds w → S k v ds w'

def StaysAll (S : Nat → Value → List Value → World → Prop) (w0 : World) (row : Option Nat) (sp : Nat) : Nat → Nat → Prop
  | _, 0 => True
  | k, n + 1 => Stays S w0 row sp k ∧ StaysAll S w0 row sp (k + 1) n

/-- All that is said in the end. -/
def Said (pre : List Oper) (S : Nat → Value → List Value → World → Prop) (vals : Nat → Value) (w : World) : Nat → Nat → Prop
  | _, 0 => True
  | k, n + 1 => Sat pre S vals w k ∧ Said pre S vals w (k + 1) n

variable {P}
theorem obs_at {pre : List Oper} {S : Nat → Value → List Value → World → Prop} {w0 : World} {row : Option Nat} {sp : Nat} {a0 : Act} {Q : Exit → Act → World → Prop} :
    ∀ {l : List Oper} {k i : Nat} {o : Oper}, Obs P pre S w0 row sp a0 Q k l → l[i]? = some o → Ob P pre S w0 row sp a0 Q (k + i) o
  | [], _, _, _, _, h => by simp at h
  | _ :: _, k, 0, o, h, hi => by simp at hi; subst hi; exact h.1
  | o' :: l, k, i + 1, o, h, hi => by
    rw [show k + (i + 1) = k + 1 + i by omega]
    exact obs_at h.2 (by simpa using hi)

theorem stays_at {S : Nat → Value → List Value → World → Prop} {w0 : World} {row : Option Nat} {sp : Nat} : ∀ {n k i : Nat}, StaysAll S w0 row sp k n → i < n → Stays S w0 row sp (k + i)
  | 0, _, _, _, h => by omega
  | n + 1, k, 0, h, _ => h.1
  | n + 1, k, i + 1, h, hi => by
    rw [show k + (i + 1) = k + 1 + i by omega]
    exact stays_at h.2 (by omega)

theorem said_of {pre : List Oper} {S : Nat → Value → List Value → World → Prop} {vals : Nat → Value} {w : World} : ∀ {n k : Nat}, (∀ j, k ≤ j → j < k + n → Sat pre S vals w j) → Said pre S vals w k n
  | 0, _, _ => trivial
  | n + 1, k, h => ⟨h k (Nat.le_refl k) (by omega), said_of fun j h1 h2 => h j (by omega) (by omega)⟩

theorem grown_weak {w w' : World} {row : Option Nat} (h : w.grownBy w' none) : w.grownBy w' row := ⟨h.os, h.tape, h.output, h.size, fun k hk _ => h.block k hk (by simp)⟩

theorem grown_refl (w : World) (row : Option Nat) : w.grownBy w row := ⟨rfl, rfl, rfl, Nat.le_refl _, fun _ _ _ => rfl⟩

structure Inv (pre : List Oper) (last : Oper) (tl : List Oper) (S : Nat → Value → List Value → World → Prop) (w0 : World) (row : Option Nat) (sp : Nat) (a0 : Act) (listed : Array Bool) (A : Act) (w : World) : Prop where
  size : listed.size = pre.length + (tl.length + 1)
  open_ : ∀ i, pre.length ≤ i → i < pre.length + (tl.length + 1) → listed.getD i true = false
  down : ∀ i o, (pre ++ last :: tl)[i]? = some o → listed.getD i false = true → ∀ j ∈ bound o, listed.getD j false = true
  vals : ∃ vals : Nat → Value, A = putAll vals pre 0 a0 ∧ ∀ j, j < pre.length → listed.getD j false = true → Sat pre S vals w j
  grown : w0.grownBy w row
  grown0 : listed.getD sp false = false → w0.grownBy w none

theorem getD_two {l : Array Bool} {i : Nat} (h : i < l.size) (x y : Bool) : l.getD i x = l.getD i y := by
  simp [h]

theorem set_getD {l : Array Bool} {i j : Nat} (hi : i < l.size) : (l.setIfInBounds i true).getD j false = if j = i then true else l.getD j false := by
  by_cases h : j = i
  · subst h; simp [hi]
  · rw [if_neg h]
    simp only [Array.getD_eq_getD_getElem?]
    rw [Array.getElem?_setIfInBounds_ne (Ne.symm h)]

theorem set_getD_t {l : Array Bool} {i j : Nat} (hi : i < l.size) : (l.setIfInBounds i true).getD j true = if j = i then true else l.getD j true := by
  by_cases h : j = i
  · subst h; simp [hi]
  · rw [if_neg h]
    simp only [Array.getD_eq_getD_getElem?]
    rw [Array.getElem?_setIfInBounds_ne (Ne.symm h)]

theorem ready_all {ops : Array Oper} {md : Region.Mode} {listed : Array Bool} (h : ∀ j, j < ops.size → listed.getD j true = true) : Region.ready md ops listed = [] := by
  unfold Region.ready
  rw [List.filter_eq_nil_iff]
  intro j hj
  have := h j (by simpa using hj)
  rw [this]
  simp

theorem count_set {l : Array Bool} {i : Nat} (hi : i < l.size) (h : l.getD i true = false) : (l.setIfInBounds i true).toList.count false + 1 = l.toList.count false := by
  have hl : i < l.toList.length := by simpa using hi
  have hg : l.toList[i] = false := by simpa [hi] using h
  rw [Array.toList_setIfInBounds, List.count_set hl, hg]
  have : 0 < l.toList.count false := List.count_pos_iff.2 (by rw [← hg]; exact List.getElem_mem hl)
  rw [if_pos (by rfl), if_neg (by decide)]
  omega

theorem ready_ne {ops : List Oper} {listed : Array Bool} (hsz : listed.size = ops.length) (hback : ∀ (i : Nat) (o : Oper), ops[i]? = some o → ∀ j ∈ bound o, j < i) (m : Nat) (hm : m < ops.length) (hu : listed.getD m true = false) : Region.ready .any ops.toArray listed ≠ [] := by
  intro h0
  have key : ∀ m, m < ops.length → listed.getD m true = false → False := by
    intro m
    induction m using Nat.strongRecOn with
    | _ m ihm =>
      intro hm hu
      obtain ⟨o, ho⟩ : ∃ o, ops[m]? = some o := ⟨_, List.getElem?_eq_getElem hm⟩
      by_cases hall : ∀ j ∈ bound o, listed.getD j false = true
      · have : m ∈ Region.ready .any ops.toArray listed := mem_ready.2 ⟨hu, o, by simpa using ho, fun e he hb => hall _ (mem_bound.2 ⟨e, he, hb, rfl⟩)⟩
        rw [h0] at this
        cases this
      · simp only [Classical.not_forall] at hall
        obtain ⟨j, hj, hjf⟩ := hall
        have hjm := hback m o ho j hj
        refine ihm j hjm (by omega) ?_
        rw [getD_two (by omega) true false]
        simpa using hjf
  exact key m hm hu

/-- Behind the others each comes in its turn. -/
theorem wpAny_tail {ops : List Oper} {Q : Exit → Act → World → Prop} (hback : ∀ (i : Nat) (o : Oper), ops[i]? = some o → ∀ j ∈ bound o, j < i) (hguard : ∀ o ∈ ops, o.guard = none) :
    ∀ (tl : List Oper) (m : Nat), ops.drop m = tl → okTail ops m tl = true → ∀ (fuel : Nat) (listed : Array Bool) (A : Act) (w : World), listed.size = ops.length → (∀ i, i < m → listed.getD i true = true) → (∀ i, m ≤ i → i < ops.length → listed.getD i true = false) →
      listed.toList.count false ≤ fuel → runTail P Q tl A w → wpAny P .any ops.toArray Q fuel listed A w := by
  intro tl
  induction tl with
  | nil =>
    intro m hd _ fuel listed A w hsz hlow _ _ hQ
    have hm : ops.length ≤ m := List.drop_eq_nil_iff.1 hd
    exact wpAny_done (ready_all fun j hj => hlow j (by simp at hj; omega)) hQ fuel
  | cons o tl ih =>
    intro m hd htl fuel listed A w hsz hlow hhigh hc hrun
    have hm : m < ops.length := by
      rcases Nat.lt_or_ge m ops.length with h | h
      · exact h
      · rw [List.drop_eq_nil_iff.2 h] at hd; cases hd
    have hom : ops[m]? = some o := by
      have : (ops.drop m)[0]? = some o := by rw [hd]; rfl
      simpa using this
    have hdt : ops.drop (m + 1) = tl := by
      have : (ops.drop m).drop 1 = tl := by rw [hd]; rfl
      rw [List.drop_drop] at this
      exact this
    have hu := hhigh m (Nat.le_refl m) hm
    cases fuel with
    | zero =>
      exfalso
      have := count_set (by omega) hu
      omega
    | succ fuel =>
      refine ⟨fun h0 => absurd h0 (ready_ne hsz hback m hm hu), fun i hi => ?_⟩
      obtain ⟨hun, o', ho', hall⟩ := mem_ready.1 hi
      have ho' : ops[i]? = some o' := by simpa using ho'
      have hil : i < ops.length := (List.getElem?_eq_some_iff.1 ho').1
      have hlisted : ∀ j, listed.getD j false = true → j < m := fun j hj => by
        rcases Nat.lt_or_ge j m with h | h
        · exact h
        · rcases Nat.lt_or_ge j ops.length with h2 | h2
          · have := hhigh j h h2
            rw [getD_two (by omega) true false] at this
            rw [this] at hj; cases hj
          · simp [Array.getElem?_eq_none (show listed.size ≤ j by omega)] at hj
      have him : i = m := by
        rcases Nat.lt_trichotomy i m with h | h | h
        · rw [hlow i h] at hun; cases hun
        · exact h
        · exfalso
          have hk : okTail ops m (o :: tl) = true := htl
          have hoi : (o :: tl)[i - m]? = some o' := by
            rw [← hd, List.getElem?_drop, show m + (i - m) = i by omega]
            exact ho'
          have hmk := okTail_at hk hoi m (by omega)
          rw [show m + (i - m) = i by omega] at hmk
          have hsub := marked_sub (ops := ops) (L := fun j => listed.getD j false = true) (fun a b hab hla j hj => by
            have h1 := hback a b hab j hj
            have h2 := hlisted a hla
            rw [getD_two (by omega) false true]
            exact hlow j (by omega)) i (bound o') (fun j hj => by
              obtain ⟨e, he, hb, rfl⟩ := mem_bound.1 hj
              exact hall e he hb) m hmk
          have := hlisted m hsub
          omega
      subst him
      rw [hom] at ho'
      injection ho' with ho'
      subst ho'
      unfold wpOp
      have hgo : ops.toArray[i]? = some o := by simpa using hom
      rw [hgo]
      have hwant : Region.wanted o (yielded ops.toArray A.tmps) = true := by simp [Region.wanted, hguard o (List.mem_of_getElem? hom)]
      show if Region.wanted o (yielded ops.toArray A.tmps) = true then _ else _
      rw [if_pos hwant]
      refine .inl (Oper.wp_mono (fun A' w' hQ => ?_) hrun)
      have hk2 : okTail ops (i + 1) tl = true := by
        unfold okTail at htl
        simp only [Bool.and_eq_true] at htl
        exact htl.2
      have hcnt := count_set (l := listed) (i := i) (by omega) hun
      refine ih (i + 1) hdt hk2 fuel _ A' w' (by simpa using hsz) (fun j hj => ?_) (fun j h1 h2 => ?_) (by omega) hQ
      · rw [set_getD_t (by omega)]
        by_cases hji : j = i
        · rw [if_pos hji]
        · rw [if_neg hji]; exact hlow j (by omega)
      · rw [set_getD_t (by omega), if_neg (by omega)]; exact hhigh j (by omega) h2

theorem wpAny_spec {pre : List Oper} {last : Oper} {tl : List Oper} {S : Nat → Value → List Value → World → Prop} {w0 : World} {row : Option Nat} {sp : Nat} {a0 : Act} {Q : Exit → Act → World → Prop}
    (hok : ok pre last tl = true) (hin : ∀ o ∈ pre, ∀ d, o.dst = some d → d < a0.tmps.size)
    (hob : Obs P pre S w0 row sp a0 Q 0 pre) (hst : StaysAll S w0 row sp 0 pre.length)
    (hend : ∀ vals w, w0.grownBy w row → Said pre S vals w 0 pre.length → runTail P Q (last :: tl) (putAll vals pre 0 a0) w) :
    ∀ (fuel : Nat) (listed : Array Bool) (A : Act) (w : World), Inv pre last tl S w0 row sp a0 listed A w → listed.toList.count false ≤ fuel → wpAny P .any (pre ++ last :: tl).toArray Q fuel listed A w := by
  unfold ok at hok
  simp only [Bool.and_eq_true] at hok
  obtain ⟨⟨hok1, hok2⟩, hok3⟩ := hok
  have hlen : (pre ++ last :: tl).length = pre.length + (tl.length + 1) := by simp
  have hback : ∀ (i : Nat) (o : Oper), (pre ++ last :: tl)[i]? = some o → ∀ j ∈ bound o, j < i := fun i o ho j hj => by
    have hokm := okAll_at hok1 ho
    unfold okOp at hokm
    simp only [Bool.and_eq_true, Nat.zero_add] at hokm
    exact Nat.blt_eq.mp (List.all_eq_true.1 hokm.1.2 j hj)
  have hguard : ∀ o ∈ pre ++ last :: tl, o.guard = none := fun o ho => by
    obtain ⟨i, hi, rfl⟩ := List.getElem_of_mem ho
    have hokm := okAll_at hok1 (List.getElem?_eq_getElem hi)
    unfold okOp at hokm
    simp only [Bool.and_eq_true, Nat.zero_add] at hokm
    exact Option.isNone_iff_eq_none.1 hokm.1.1
  have hget : ∀ i : Nat, (pre ++ last :: tl).toArray[i]? = (pre ++ last :: tl)[i]? := fun i => by simp
  intro fuel
  induction fuel with
  | zero =>
    intro listed A w hI hc
    exfalso
    have hi : pre.length < listed.size := by rw [hI.size]; omega
    have := count_set hi (hI.open_ pre.length (Nat.le_refl _) (by omega))
    omega
  | succ fuel ih =>
    intro listed A w hI hc
    have hlsz := hI.size
    refine ⟨fun h0 => ?_, fun i hi => ?_⟩
    · exact absurd h0 (ready_ne (by rw [hlsz, hlen]) hback pre.length (by omega) (hI.open_ pre.length (Nat.le_refl _) (by omega)))
    · obtain ⟨hun, o, ho, hall⟩ := mem_ready.1 hi
      rw [hget] at ho
      have hilt : i < pre.length + (tl.length + 1) := by
        have := (List.getElem?_eq_some_iff.1 ho).1
        omega
      have hisz : i < listed.size := by omega
      have hallb : ∀ j ∈ bound o, listed.getD j false = true := fun j hj => by
        obtain ⟨e, he, hb, rfl⟩ := mem_bound.1 hj
        exact hall e he hb
      have hokm := okAll_at hok1 ho
      unfold okOp at hokm
      simp only [Bool.and_eq_true, Nat.zero_add] at hokm
      have hwant : Region.wanted o (yielded (pre ++ last :: tl).toArray A.tmps) = true := by
        have : o.guard = none := Option.isNone_iff_eq_none.1 hokm.1.1
        simp [Region.wanted, this]
      obtain ⟨vals, rfl, hS⟩ := hI.vals
      unfold wpOp
      rw [hget, ho]
      show if Region.wanted o (yielded (pre ++ last :: tl).toArray (putAll vals pre 0 a0).tmps) = true then _ else _
      rw [if_pos hwant]
      refine .inl ?_
      have hcnt := count_set hisz hun
      by_cases hin' : i < pre.length
      · have hopre : pre[i]? = some o := by rw [List.getElem?_append_left hin'] at ho; exact ho
        have hob' := obs_at hob hopre
        rw [Nat.zero_add] at hob'
        refine hob' (putAll vals pre 0 a0) w _ vals (facts_of fun x hx => ?_) (needs_of fun j hj => ?_) ?_ ?_
        · cases x with
          | tmp t =>
            have hx' := List.all_eq_true.1 hokm.2 _ hx
            simp only [] at hx'
            show (match prodOf t pre 0 with | some j => (putAll vals pre 0 a0).eval (.tmp t) = vals j | none => (putAll vals pre 0 a0).eval (.tmp t) = a0.eval (.tmp t))
            cases hp : prodOf t pre 0 with
            | none => exact eval_none vals t pre 0 a0 hp
            | some j =>
              rw [hp] at hx'
              simp only [] at hx'
              have hj : j < pre.length ∧ ∃ o', pre[j]? = some o' ∧ o'.dst = some t := by
                have : ∀ (l : List Oper) (k j : Nat), prodOf t l k = some j → k ≤ j ∧ ∃ o', l[j - k]? = some o' ∧ o'.dst = some t := by
                  intro l
                  induction l with
                  | nil => intro k j h; cases h
                  | cons q l ihl =>
                    intro k j h
                    unfold prodOf at h
                    have rec_ : prodOf t l (k + 1) = some j → k ≤ j ∧ ∃ o', (q :: l)[j - k]? = some o' ∧ o'.dst = some t := fun h => by
                      obtain ⟨h1, o', h2, h3⟩ := ihl (k + 1) j h
                      refine ⟨by omega, o', ?_, h3⟩
                      rw [show j - k = (j - (k + 1)) + 1 by omega]
                      simpa using h2
                    cases hd : q.dst with
                    | none => rw [hd] at h; exact rec_ h
                    | some d =>
                      rw [hd] at h
                      simp only [] at h
                      by_cases hb : Nat.beq d t = true
                      · rw [if_pos hb] at h
                        injection h with h
                        subst h
                        exact ⟨Nat.le_refl _, q, by simp, by rw [hd, Nat.eq_of_beq_eq_true hb]⟩
                      · rw [if_neg hb] at h; exact rec_ h
                obtain ⟨_, o', h2, h3⟩ := this pre 0 j hp
                rw [Nat.sub_zero] at h2
                exact ⟨(List.getElem?_eq_some_iff.1 h2).1, o', h2, h3⟩
              obtain ⟨_, o', ho', hdst⟩ := hj
              exact eval_some vals t pre 0 j a0 hok2 hp (hin o' (List.mem_of_getElem? ho') t hdst)
          | _ => trivial
        · have hjm := Nat.blt_eq.mp (List.all_eq_true.1 hokm.1.2 j hj)
          exact hS j (by omega) (hallb j hj)
        · by_cases hsp : Nat.beq i sp = true
          · rw [if_pos hsp]
            refine hI.grown0 ?_
            obtain rfl : i = sp := Nat.eq_of_beq_eq_true hsp
            rw [getD_two hisz false true]
            exact hun
          · rw [if_neg hsp]
            exact hI.grown
        · intro v w' hg hSv
          refine ih _ _ _ ?_ (by omega)
          refine ⟨by simp [hlsz], ?_, ?_, ⟨fun n => if n = 0 + i then v else vals n, putAll_upd vals v pre 0 i o a0 hok2 hopre, ?_⟩, ?_, ?_⟩
          · intro k hk1 hk2; rw [set_getD_t hisz, if_neg (by omega)]; exact hI.open_ k hk1 hk2
          · intro k ok' hk hkl j hj
            rw [set_getD hisz] at hkl ⊢
            by_cases hji : j = i
            · rw [if_pos hji]
            · rw [if_neg hji]
              by_cases hki : k = i
              · subst hki
                rw [ho] at hk
                injection hk with hk
                subst hk
                exact hallb j hj
              · rw [if_neg hki] at hkl
                exact hI.down k ok' hk hkl j hj
          · intro j hj hjl
            rw [set_getD hisz] at hjl
            simp only [Nat.zero_add]
            have hdeps : ∀ k, (k = i ∨ listed.getD k false = true) → k < pre.length → depsOf pre k (fun n => if n = i then v else vals n) = depsOf pre k vals := by
              intro k hk hkl
              unfold depsOf
              rw [List.getElem?_eq_getElem hkl]
              simp only []
              refine List.map_congr_left fun m hm => ?_
              have hne : m ≠ i := by
                rintro rfl
                have hkk : (pre ++ last :: tl)[k]? = some pre[k] := by rw [List.getElem?_append_left hkl]; exact List.getElem?_eq_getElem hkl
                have hlm : listed.getD m false = true := by
                  rcases hk with rfl | hk
                  · have : pre[k] = o := by rw [hkk] at ho; exact Option.some.inj ho
                    rw [this] at hm
                    exact hallb _ hm
                  · exact hI.down k _ hkk hk m hm
                rw [getD_two hisz false true, hun] at hlm
                cases hlm
              rw [if_neg hne]
            by_cases hji : j = i
            · subst hji
              have hdo : depsOf pre j vals = (bound o).map vals := by unfold depsOf; rw [hopre]
              unfold Sat
              rw [hdeps j (.inl rfl) hj, hdo]
              show S j (if j = j then v else vals j) _ _
              rw [if_pos rfl]
              exact hSv
            · rw [if_neg hji] at hjl
              have hstj := stays_at hst hj
              rw [Nat.zero_add] at hstj
              unfold Sat
              rw [hdeps j (.inr hjl) hj]
              show S j (if j = i then v else vals j) _ _
              rw [if_neg hji]
              refine hstj _ _ _ _ hI.grown.size ?_ (hS j hj hjl)
              by_cases hjs : Nat.beq j sp = true
              · rw [if_pos hjs]
                by_cases his : Nat.beq i sp = true
                · exact absurd ((Nat.eq_of_beq_eq_true hjs).trans (Nat.eq_of_beq_eq_true his).symm) hji
                · rw [if_neg his] at hg; exact hg
              · rw [if_neg hjs]
                by_cases his : Nat.beq i sp = true
                · rw [if_pos his] at hg; exact hg
                · rw [if_neg his] at hg; exact grown_weak hg
          · refine hI.grown.trans ?_
            by_cases his : Nat.beq i sp = true
            · rw [if_pos his] at hg; exact hg
            · rw [if_neg his] at hg; exact grown_weak hg
          · intro hspf
            rw [set_getD hisz] at hspf
            by_cases hsi : sp = i
            · rw [if_pos hsi] at hspf; cases hspf
            · rw [if_neg hsi] at hspf
              refine (hI.grown0 hspf).trans ?_
              rw [if_neg (fun h => hsi (Nat.eq_of_beq_eq_true h).symm)] at hg
              exact hg
      · have hoi : (last :: tl)[i - pre.length]? = some o := by
          rw [List.getElem?_append_right (by omega)] at ho
          exact ho
        have hmark : ∀ j, j < i → listed.getD j false = true := by
          intro j hj
          have hm := okTail_at hok3 hoi j (by omega)
          rw [show pre.length + (i - pre.length) = i by omega] at hm
          exact marked_sub (ops := pre ++ last :: tl) (L := fun j => listed.getD j false = true) (fun a o' ha hl' j' hj' => hI.down a o' ha hl' j' hj') i (bound o) hallb j hm
        have hii : i = pre.length := by
          rcases Nat.lt_or_ge pre.length i with h | h
          · exfalso
            have h1 := hmark pre.length h
            rw [getD_two (by omega) false true, hI.open_ pre.length (Nat.le_refl _) (by omega)] at h1
            cases h1
          · omega
        subst hii
        have hol : o = last := by
          rw [Nat.sub_self] at hoi
          simpa using hoi.symm
        subst hol
        refine Oper.wp_mono (fun A' w' hQ => ?_) (hend vals w hI.grown (said_of fun j _ hj => hS j (by omega) (hmark j (by omega))))
        have hk2 : okTail (pre ++ o :: tl) (pre.length + 1) tl = true := by
          unfold okTail at hok3
          simp only [Bool.and_eq_true] at hok3
          exact hok3.2
        refine wpAny_tail hback hguard tl (pre.length + 1) ?_ hk2 fuel _ A' w' (by rw [Array.size_setIfInBounds, hlsz, hlen]) (fun j hj => ?_) (fun j h1 h2 => ?_) (by omega) hQ
        · rw [show pre ++ o :: tl = (pre ++ [o]) ++ tl by simp]
          exact List.drop_left' (by simp)
        · rw [set_getD_t hisz]
          by_cases hjp : j = pre.length
          · rw [if_pos hjp]
          · rw [if_neg hjp, getD_two (by omega) true false]
            exact hmark j (by omega)
        · rw [set_getD_t hisz, if_neg (by omega)]
          exact hI.open_ j (by omega) (by omega)

theorem grown_drew {w0 w : World} {row : Option Nat} (h : w0.grownBy w row) : w0.grownBy w.drew row := ⟨h.os, h.tape, h.output, h.size, h.block⟩

/-- THE RULE. -/
theorem wp_region {pre : List Oper} {last : Oper} {tl : List Oper} {id : Nat} (S : Nat → Value → List Value → World → Prop) {w0 : World} (row : Option Nat) (sp : Nat) {a0 : Act} {Q : Exit → Act → World → Prop} (hm : P.follows .mixedOrders = true)
    (hok : ok pre last tl = true) (hin : (pre.all fun o => match o.dst with | some d => Nat.blt d a0.tmps.size | none => true) = true)
    (hob : Obs P pre S w0 row sp a0 Q 0 pre) (hst : StaysAll S w0 row sp 0 pre.length)
    (hend : ∀ vals w, w0.grownBy w row → Said pre S vals w 0 pre.length → runTail P Q (last :: tl) (putAll vals pre 0 a0) w) :
    (Code.region id (pre ++ last :: tl).toArray true).wp P Q a0 w0 := by
  have hin' : ∀ o ∈ pre, ∀ d, o.dst = some d → d < a0.tmps.size := by
    intro o ho d hd
    have := List.all_eq_true.1 hin o ho
    rw [hd] at this
    exact Nat.blt_eq.mp this
  refine wp_region_any hm (wpAny_spec hok hin' hob hst hend _ _ _ _ ⟨by simp, ?_, ?_, ?_, ⟨rfl, rfl, rfl, Nat.le_refl _, fun _ _ _ => rfl⟩, fun _ => ⟨rfl, rfl, rfl, Nat.le_refl _, fun _ _ _ => rfl⟩⟩ ?_)
  · intro i _ hi
    simp [hi]
  · intro i o _ h
    exfalso
    by_cases hi : i < pre.length + (tl.length + 1)
    · simp [hi] at h
    · simp [hi] at h
  · obtain ⟨vals, hv⟩ := putAll_start a0 pre 0 hin'
    refine ⟨vals, hv, fun j _ h => ?_⟩
    exfalso
    by_cases hj : j < pre.length + (tl.length + 1)
    · simp [hj] at h
    · simp [hj] at h
  · simp

/-- The rule, at a region as it stands; the last 't' operations are carried out behind the others, in their turn. -/
theorem wp_region_tail {l : List Oper} {id : Nat} (t : Nat) (S : Nat → Value → List Value → World → Prop) {w0 : World} (row : Option Nat) (sp : Nat) {a0 : Act} {Q : Exit → Act → World → Prop} (hm : P.follows .mixedOrders = true)
    (hl : l.take (l.length - t) ++ (l.drop (l.length - t)).headD default :: (l.drop (l.length - t)).tail = l) (hok : ok (l.take (l.length - t)) ((l.drop (l.length - t)).headD default) (l.drop (l.length - t)).tail = true)
    (hin : ((l.take (l.length - t)).all fun o => match o.dst with | some d => Nat.blt d a0.tmps.size | none => true) = true)
    (hob : Obs P (l.take (l.length - t)) S w0 row sp a0 Q 0 (l.take (l.length - t))) (hst : StaysAll S w0 row sp 0 (l.take (l.length - t)).length)
    (hend : ∀ vals w (G : Prop), w0.grownBy w row → Said (l.take (l.length - t)) S vals w 0 (l.take (l.length - t)).length → (runTail P Q (l.drop (l.length - t)) (putAll vals (l.take (l.length - t)) 0 a0) w → G) → G) :
    (Code.region id l.toArray true).wp P Q a0 w0 := by
  have hd : (l.drop (l.length - t)).headD default :: (l.drop (l.length - t)).tail = l.drop (l.length - t) := by
    have h2 := List.take_append_drop (l.length - t) l
    rw [← hl] at h2
    have h3 := hl
    conv at h3 => rhs; rw [← List.take_append_drop (l.length - t) l]
    exact List.append_cancel_left h3
  have h := wp_region (id := id) S row sp hm hok hin hob hst fun vals w h1 h2 => hend vals w _ h1 h2 (fun h => by rw [hd]; exact h)
  rw [hl] at h
  exact h

/-- .. the last one alone. -/
theorem wp_region_lit {l : List Oper} {id : Nat} (S : Nat → Value → List Value → World → Prop) {w0 : World} (row : Option Nat) (sp : Nat) {a0 : Act} {Q : Exit → Act → World → Prop} (hm : P.follows .mixedOrders = true)
    (hl : l.dropLast ++ [l.getLastD default] = l) (hok : ok l.dropLast (l.getLastD default) [] = true)
    (hin : (l.dropLast.all fun o => match o.dst with | some d => Nat.blt d a0.tmps.size | none => true) = true)
    (hob : Obs P l.dropLast S w0 row sp a0 Q 0 l.dropLast) (hst : StaysAll S w0 row sp 0 l.dropLast.length)
    (hend : ∀ vals w (G : Prop), w0.grownBy w row → Said l.dropLast S vals w 0 l.dropLast.length → ((l.getLastD default).wp P (putAll vals l.dropLast 0 a0) w (fun A' w' => Q .normal A' w') Q → G) → G) :
    (Code.region id l.toArray true).wp P Q a0 w0 := by
  have h := wp_region (id := id) S row sp hm hok hin hob hst fun vals w h1 h2 => hend vals w _ h1 h2 (fun h => h)
  rw [hl] at h
  exact h

theorem slot {A : Act} {t : Tmp} {v : Value} (h : A.eval (.tmp t) = v) : A.tmps[t]?.getD undef = v := by rw [← h]; simp [Act.eval]

theorem op_val {o : Oper} {A : Act} {w w' : World} {v : Value} {K : Act → World → Prop} {Q : Exit → Act → World → Prop} (h : (execOp A.eval o).run P w = .ok (.value v) w') (hK : K (A.put o.dst v) w') : o.wp P A w K Q := by
  unfold Oper.wp; rw [h]; exact hK
end
end Rg
end Go.Proofs.YtghdjkpndhcplaaDoor
end
section
namespace Go.Proofs.YtghdjkpndhcplaaDoor
namespace Rk
open Rg
/-- What K names is as it was; nothing has gone. -/
structure Keeps (K : Nat → Obj → Prop) (w w' : World) : Prop where
  os : w'.os = w.os
  tape : w'.tape = w.tape
  output : w'.output = w.output
  size : w.heap.size ≤ w'.heap.size
  block : ∀ k o, w.heap[k]? = some o → K k o → w'.heap[k]? = some o
def allK : Nat → Obj → Prop := fun _ _ => True
theorem Keeps.refl (K : Nat → Obj → Prop) (w : World) : Keeps K w w := ⟨rfl, rfl, rfl, Nat.le_refl _, fun _ _ h _ => h⟩
theorem Keeps.trans {K : Nat → Obj → Prop} {a b c : World} (h : Keeps K a b) (k : Keeps K b c) : Keeps K a c :=
  ⟨k.os.trans h.os, k.tape.trans h.tape, k.output.trans h.output, Nat.le_trans h.size k.size, fun i o ho hk => k.block i o (h.block i o ho hk) hk⟩
theorem keep_weak {w w' : World} {K : Nat → Obj → Prop} (h : Keeps allK w w') : Keeps K w w' := ⟨h.os, h.tape, h.output, h.size, fun k o ho _ => h.block k o ho trivial⟩
theorem keep_of {w w' : World} (h : w.grownBy w' none) : Keeps allK w w' := ⟨h.os, h.tape, h.output, h.size, fun k o ho _ => (h.block k (Array.getElem?_eq_some_iff.1 ho).1 (by simp)).trans ho⟩
theorem grown_of {w w' : World} (h : Keeps allK w w') : w.grownBy w' none := ⟨h.os, h.tape, h.output, h.size, fun k hk _ => by
  have := h.block k _ (Array.getElem?_eq_getElem hk) trivial
  rw [this]
  exact (Array.getElem?_eq_getElem hk).symm⟩

/-! ### What is to be shown -/
section
variable (P : Program)

/-- Of one operation: carried out where what it waits for has been done, it leaves a value of which its own is said; the row 'row' is written by operation 'sp' alone. -/
def Ob (pre : List Oper) (S T : Nat → Value → List Value → World → Prop) (w0 : World) (row : Nat → Obj → Prop) (sp : Nat) (a0 : Act) (Q : Exit → Act → World → Prop) (k : Nat) (o : Oper) : Prop :=
  ∀ (A : Act) (w : World) (K : Act → World → Prop) (vals : Nat → Value), facts pre a0 A vals o.op.operands.toList → needs pre S vals w (bound o) → (Nat.beq k sp = true → needs pre T vals w (bound o)) → Keeps (if Nat.beq k sp then allK else row) w0 w →
    (∀ v w', Keeps (if Nat.beq k sp then row else allK) w w' → S k v ((bound o).map vals) w' → (if Nat.beq k sp then True else T k v ((bound o).map vals) w') → K (A.put o.dst v) w') → o.wp P A w K Q

def Obs (pre : List Oper) (S T : Nat → Value → List Value → World → Prop) (w0 : World) (row : Nat → Obj → Prop) (sp : Nat) (a0 : Act) (Q : Exit → Act → World → Prop) : Nat → List Oper → Prop
  | _, [] => True
  | k, o :: l => Ob P pre S T w0 row sp a0 Q k o ∧ Obs pre S T w0 row sp a0 Q (k + 1) l

/-- What is said of a value stays: behind every operation but its own. -/
def Stays (S : Nat → Value → List Value → World → Prop) (w0 : World) (row : Nat → Obj → Prop) (sp k : Nat) : Prop :=
  ∀ v ds w w', w0.heap.size ≤ w.heap.size → Keeps (if Nat.beq k sp then allK else row) w w' → S k v ds w → S k v ds w'

def StaysAll (S : Nat → Value → List Value → World → Prop) (w0 : World) (row : Nat → Obj → Prop) (sp : Nat) : Nat → Nat → Prop
  | _, 0 => True
  | k, n + 1 => Stays S w0 row sp k ∧ StaysAll S w0 row sp (k + 1) n

variable {P}
theorem obs_at {pre : List Oper} {S T : Nat → Value → List Value → World → Prop} {w0 : World} {row : Nat → Obj → Prop} {sp : Nat} {a0 : Act} {Q : Exit → Act → World → Prop} :
    ∀ {l : List Oper} {k i : Nat} {o : Oper}, Obs P pre S T w0 row sp a0 Q k l → l[i]? = some o → Ob P pre S T w0 row sp a0 Q (k + i) o
  | [], _, _, _, _, h => by simp at h
  | _ :: _, k, 0, o, h, hi => by simp at hi; subst hi; exact h.1
  | o' :: l, k, i + 1, o, h, hi => by
    rw [show k + (i + 1) = k + 1 + i by omega]
    exact obs_at h.2 (by simpa using hi)

theorem stays_at {S : Nat → Value → List Value → World → Prop} {w0 : World} {row : Nat → Obj → Prop} {sp : Nat} : ∀ {n k i : Nat}, StaysAll S w0 row sp k n → i < n → Stays S w0 row sp (k + i)
  | 0, _, _, _, h => by omega
  | n + 1, k, 0, h, _ => h.1
  | n + 1, k, i + 1, h, hi => by
    rw [show k + (i + 1) = k + 1 + i by omega]
    exact stays_at h.2 (by omega)

structure Inv (pre : List Oper) (last : Oper) (tl : List Oper) (S T : Nat → Value → List Value → World → Prop) (w0 : World) (row : Nat → Obj → Prop) (sp : Nat) (a0 : Act) (listed : Array Bool) (A : Act) (w : World) : Prop where
  size : listed.size = pre.length + (tl.length + 1)
  open_ : ∀ i, pre.length ≤ i → i < pre.length + (tl.length + 1) → listed.getD i true = false
  down : ∀ i o, (pre ++ last :: tl)[i]? = some o → listed.getD i false = true → ∀ j ∈ bound o, listed.getD j false = true
  vals : ∃ vals : Nat → Value, A = putAll vals pre 0 a0 ∧ (∀ j, j < pre.length → listed.getD j false = true → Sat pre S vals w j) ∧ (listed.getD sp false = false → ∀ j, j < pre.length → listed.getD j false = true → Sat pre T vals w j)
  grown : Keeps row w0 w
  grown0 : listed.getD sp false = false → Keeps allK w0 w

theorem wpAny_spec {pre : List Oper} {last : Oper} {tl : List Oper} {S T : Nat → Value → List Value → World → Prop} {w0 : World} {row : Nat → Obj → Prop} {sp : Nat} {a0 : Act} {Q : Exit → Act → World → Prop}
    (hok : ok pre last tl = true) (hin : ∀ o ∈ pre, ∀ d, o.dst = some d → d < a0.tmps.size)
    (hob : Obs P pre S T w0 row sp a0 Q 0 pre) (hst : StaysAll S w0 row sp 0 pre.length) (hstT : ∀ k v ds w w', Keeps allK w w' → T k v ds w → T k v ds w')
    (hend : ∀ vals w, Keeps row w0 w → Said pre S vals w 0 pre.length → runTail P Q (last :: tl) (putAll vals pre 0 a0) w) :
    ∀ (fuel : Nat) (listed : Array Bool) (A : Act) (w : World), Inv pre last tl S T w0 row sp a0 listed A w → listed.toList.count false ≤ fuel → wpAny P .any (pre ++ last :: tl).toArray Q fuel listed A w := by
  unfold ok at hok
  simp only [Bool.and_eq_true] at hok
  obtain ⟨⟨hok1, hok2⟩, hok3⟩ := hok
  have hlen : (pre ++ last :: tl).length = pre.length + (tl.length + 1) := by simp
  have hback : ∀ (i : Nat) (o : Oper), (pre ++ last :: tl)[i]? = some o → ∀ j ∈ bound o, j < i := fun i o ho j hj => by
    have hokm := okAll_at hok1 ho
    unfold okOp at hokm
    simp only [Bool.and_eq_true, Nat.zero_add] at hokm
    exact Nat.blt_eq.mp (List.all_eq_true.1 hokm.1.2 j hj)
  have hguard : ∀ o ∈ pre ++ last :: tl, o.guard = none := fun o ho => by
    obtain ⟨i, hi, rfl⟩ := List.getElem_of_mem ho
    have hokm := okAll_at hok1 (List.getElem?_eq_getElem hi)
    unfold okOp at hokm
    simp only [Bool.and_eq_true, Nat.zero_add] at hokm
    exact Option.isNone_iff_eq_none.1 hokm.1.1
  have hget : ∀ i : Nat, (pre ++ last :: tl).toArray[i]? = (pre ++ last :: tl)[i]? := fun i => by simp
  intro fuel
  induction fuel with
  | zero =>
    intro listed A w hI hc
    exfalso
    have hi : pre.length < listed.size := by rw [hI.size]; omega
    have := count_set hi (hI.open_ pre.length (Nat.le_refl _) (by omega))
    omega
  | succ fuel ih =>
    intro listed A w hI hc
    have hlsz := hI.size
    refine ⟨fun h0 => ?_, fun i hi => ?_⟩
    · exact absurd h0 (ready_ne (by rw [hlsz, hlen]) hback pre.length (by omega) (hI.open_ pre.length (Nat.le_refl _) (by omega)))
    · obtain ⟨hun, o, ho, hall⟩ := mem_ready.1 hi
      rw [hget] at ho
      have hilt : i < pre.length + (tl.length + 1) := by
        have := (List.getElem?_eq_some_iff.1 ho).1
        omega
      have hisz : i < listed.size := by omega
      have hallb : ∀ j ∈ bound o, listed.getD j false = true := fun j hj => by
        obtain ⟨e, he, hb, rfl⟩ := mem_bound.1 hj
        exact hall e he hb
      have hokm := okAll_at hok1 ho
      unfold okOp at hokm
      simp only [Bool.and_eq_true, Nat.zero_add] at hokm
      have hwant : Region.wanted o (yielded (pre ++ last :: tl).toArray A.tmps) = true := by
        have : o.guard = none := Option.isNone_iff_eq_none.1 hokm.1.1
        simp [Region.wanted, this]
      obtain ⟨vals, rfl, hS, hT⟩ := hI.vals
      unfold wpOp
      rw [hget, ho]
      show if Region.wanted o (yielded (pre ++ last :: tl).toArray (putAll vals pre 0 a0).tmps) = true then _ else _
      rw [if_pos hwant]
      refine .inl ?_
      have hcnt := count_set hisz hun
      by_cases hin' : i < pre.length
      · have hopre : pre[i]? = some o := by rw [List.getElem?_append_left hin'] at ho; exact ho
        have hob' := obs_at hob hopre
        rw [Nat.zero_add] at hob'
        refine hob' (putAll vals pre 0 a0) w _ vals (facts_of fun x hx => ?_) (needs_of fun j hj => ?_) (fun hsp => needs_of fun j hj => ?_) ?_ ?_
        · cases x with
          | tmp t =>
            have hx' := List.all_eq_true.1 hokm.2 _ hx
            simp only [] at hx'
            show (match prodOf t pre 0 with | some j => (putAll vals pre 0 a0).eval (.tmp t) = vals j | none => (putAll vals pre 0 a0).eval (.tmp t) = a0.eval (.tmp t))
            cases hp : prodOf t pre 0 with
            | none => exact eval_none vals t pre 0 a0 hp
            | some j =>
              rw [hp] at hx'
              simp only [] at hx'
              have hj : j < pre.length ∧ ∃ o', pre[j]? = some o' ∧ o'.dst = some t := by
                have : ∀ (l : List Oper) (k j : Nat), prodOf t l k = some j → k ≤ j ∧ ∃ o', l[j - k]? = some o' ∧ o'.dst = some t := by
                  intro l
                  induction l with
                  | nil => intro k j h; cases h
                  | cons q l ihl =>
                    intro k j h
                    unfold prodOf at h
                    have rec_ : prodOf t l (k + 1) = some j → k ≤ j ∧ ∃ o', (q :: l)[j - k]? = some o' ∧ o'.dst = some t := fun h => by
                      obtain ⟨h1, o', h2, h3⟩ := ihl (k + 1) j h
                      refine ⟨by omega, o', ?_, h3⟩
                      rw [show j - k = (j - (k + 1)) + 1 by omega]
                      simpa using h2
                    cases hd : q.dst with
                    | none => rw [hd] at h; exact rec_ h
                    | some d =>
                      rw [hd] at h
                      simp only [] at h
                      by_cases hb : Nat.beq d t = true
                      · rw [if_pos hb] at h
                        injection h with h
                        subst h
                        exact ⟨Nat.le_refl _, q, by simp, by rw [hd, Nat.eq_of_beq_eq_true hb]⟩
                      · rw [if_neg hb] at h; exact rec_ h
                obtain ⟨_, o', h2, h3⟩ := this pre 0 j hp
                rw [Nat.sub_zero] at h2
                exact ⟨(List.getElem?_eq_some_iff.1 h2).1, o', h2, h3⟩
              obtain ⟨_, o', ho', hdst⟩ := hj
              exact eval_some vals t pre 0 j a0 hok2 hp (hin o' (List.mem_of_getElem? ho') t hdst)
          | _ => trivial
        · have hjm := Nat.blt_eq.mp (List.all_eq_true.1 hokm.1.2 j hj)
          exact hS j (by omega) (hallb j hj)
        · have hjm := Nat.blt_eq.mp (List.all_eq_true.1 hokm.1.2 j hj)
          obtain rfl : i = sp := Nat.eq_of_beq_eq_true hsp
          exact hT (by rw [getD_two hisz false true]; exact hun) j (by omega) (hallb j hj)
        · by_cases hsp : Nat.beq i sp = true
          · rw [if_pos hsp]
            refine hI.grown0 ?_
            obtain rfl : i = sp := Nat.eq_of_beq_eq_true hsp
            rw [getD_two hisz false true]
            exact hun
          · rw [if_neg hsp]
            exact hI.grown
        · intro v w' hg hSv hTv
          refine ih _ _ _ ?_ (by omega)
          refine ⟨by simp [hlsz], ?_, ?_, ⟨fun n => if n = 0 + i then v else vals n, putAll_upd vals v pre 0 i o a0 hok2 hopre, ?_, ?_⟩, ?_, ?_⟩
          · intro k hk1 hk2; rw [set_getD_t hisz, if_neg (by omega)]; exact hI.open_ k hk1 hk2
          · intro k ok' hk hkl j hj
            rw [set_getD hisz] at hkl ⊢
            by_cases hji : j = i
            · rw [if_pos hji]
            · rw [if_neg hji]
              by_cases hki : k = i
              · subst hki
                rw [ho] at hk
                injection hk with hk
                subst hk
                exact hallb j hj
              · rw [if_neg hki] at hkl
                exact hI.down k ok' hk hkl j hj
          · intro j hj hjl
            rw [set_getD hisz] at hjl
            simp only [Nat.zero_add]
            have hdeps : ∀ k, (k = i ∨ listed.getD k false = true) → k < pre.length → depsOf pre k (fun n => if n = i then v else vals n) = depsOf pre k vals := by
              intro k hk hkl
              unfold depsOf
              rw [List.getElem?_eq_getElem hkl]
              simp only []
              refine List.map_congr_left fun m hm => ?_
              have hne : m ≠ i := by
                rintro rfl
                have hkk : (pre ++ last :: tl)[k]? = some pre[k] := by rw [List.getElem?_append_left hkl]; exact List.getElem?_eq_getElem hkl
                have hlm : listed.getD m false = true := by
                  rcases hk with rfl | hk
                  · have : pre[k] = o := by rw [hkk] at ho; exact Option.some.inj ho
                    rw [this] at hm
                    exact hallb _ hm
                  · exact hI.down k _ hkk hk m hm
                rw [getD_two hisz false true, hun] at hlm
                cases hlm
              rw [if_neg hne]
            by_cases hji : j = i
            · subst hji
              have hdo : depsOf pre j vals = (bound o).map vals := by unfold depsOf; rw [hopre]
              unfold Sat
              rw [hdeps j (.inl rfl) hj, hdo]
              show S j (if j = j then v else vals j) _ _
              rw [if_pos rfl]
              exact hSv
            · rw [if_neg hji] at hjl
              have hstj := stays_at hst hj
              rw [Nat.zero_add] at hstj
              unfold Sat
              rw [hdeps j (.inr hjl) hj]
              show S j (if j = i then v else vals j) _ _
              rw [if_neg hji]
              refine hstj _ _ _ _ hI.grown.size ?_ (hS j hj hjl)
              by_cases hjs : Nat.beq j sp = true
              · rw [if_pos hjs]
                by_cases his : Nat.beq i sp = true
                · exact absurd ((Nat.eq_of_beq_eq_true hjs).trans (Nat.eq_of_beq_eq_true his).symm) hji
                · rw [if_neg his] at hg; exact hg
              · rw [if_neg hjs]
                by_cases his : Nat.beq i sp = true
                · rw [if_pos his] at hg; exact hg
                · rw [if_neg his] at hg; exact keep_weak hg
          · intro hspf j hj hjl
            rw [set_getD hisz] at hspf hjl
            by_cases hsi : sp = i
            · rw [if_pos hsi] at hspf; cases hspf
            · rw [if_neg hsi] at hspf
              have hnb : ¬ Nat.beq i sp = true := fun h => hsi (Nat.eq_of_beq_eq_true h).symm
              rw [if_neg hnb] at hg hTv
              have hdeps : ∀ k, (k = i ∨ listed.getD k false = true) → k < pre.length → depsOf pre k (fun n => if n = 0 + i then v else vals n) = depsOf pre k vals := by
                intro k hk hkl
                unfold depsOf
                rw [List.getElem?_eq_getElem hkl]
                simp only []
                refine List.map_congr_left fun m hm => ?_
                have hne : m ≠ 0 + i := by
                  rw [Nat.zero_add]
                  rintro rfl
                  have hkk : (pre ++ last :: tl)[k]? = some pre[k] := by rw [List.getElem?_append_left hkl]; exact List.getElem?_eq_getElem hkl
                  have hlm : listed.getD m false = true := by
                    rcases hk with rfl | hk
                    · have : pre[k] = o := by rw [hkk] at ho; exact Option.some.inj ho
                      rw [this] at hm
                      exact hallb _ hm
                    · exact hI.down k _ hkk hk m hm
                  rw [getD_two hisz false true, hun] at hlm
                  cases hlm
                rw [if_neg hne]
              unfold Sat
              by_cases hji : j = i
              · subst hji
                have hdo : depsOf pre j vals = (bound o).map vals := by unfold depsOf; rw [hopre]
                rw [hdeps j (.inl rfl) hj, hdo]
                show T j (if j = 0 + j then v else vals j) _ _
                rw [if_pos (by omega)]
                exact hTv
              · rw [if_neg hji] at hjl
                rw [hdeps j (.inr hjl) hj]
                show T j (if j = 0 + i then v else vals j) _ _
                rw [if_neg (by omega)]
                exact hstT _ _ _ _ _ hg (hT hspf j hj hjl)
          · refine hI.grown.trans ?_
            by_cases his : Nat.beq i sp = true
            · rw [if_pos his] at hg; exact hg
            · rw [if_neg his] at hg; exact keep_weak hg
          · intro hspf
            rw [set_getD hisz] at hspf
            by_cases hsi : sp = i
            · rw [if_pos hsi] at hspf; cases hspf
            · rw [if_neg hsi] at hspf
              refine (hI.grown0 hspf).trans ?_
              rw [if_neg (fun h => hsi (Nat.eq_of_beq_eq_true h).symm)] at hg
              exact hg
      · have hoi : (last :: tl)[i - pre.length]? = some o := by
          rw [List.getElem?_append_right (by omega)] at ho
          exact ho
        have hmark : ∀ j, j < i → listed.getD j false = true := by
          intro j hj
          have hm := okTail_at hok3 hoi j (by omega)
          rw [show pre.length + (i - pre.length) = i by omega] at hm
          exact marked_sub (ops := pre ++ last :: tl) (L := fun j => listed.getD j false = true) (fun a o' ha hl' j' hj' => hI.down a o' ha hl' j' hj') i (bound o) hallb j hm
        have hii : i = pre.length := by
          rcases Nat.lt_or_ge pre.length i with h | h
          · exfalso
            have h1 := hmark pre.length h
            rw [getD_two (by omega) false true, hI.open_ pre.length (Nat.le_refl _) (by omega)] at h1
            cases h1
          · omega
        subst hii
        have hol : o = last := by
          rw [Nat.sub_self] at hoi
          simpa using hoi.symm
        subst hol
        refine Oper.wp_mono (fun A' w' hQ => ?_) (hend vals w hI.grown (said_of fun j _ hj => hS j (by omega) (hmark j (by omega))))
        have hk2 : okTail (pre ++ o :: tl) (pre.length + 1) tl = true := by
          unfold okTail at hok3
          simp only [Bool.and_eq_true] at hok3
          exact hok3.2
        refine wpAny_tail hback hguard tl (pre.length + 1) ?_ hk2 fuel _ A' w' (by rw [Array.size_setIfInBounds, hlsz, hlen]) (fun j hj => ?_) (fun j h1 h2 => ?_) (by omega) hQ
        · rw [show pre ++ o :: tl = (pre ++ [o]) ++ tl by simp]
          exact List.drop_left' (by simp)
        · rw [set_getD_t hisz]
          by_cases hjp : j = pre.length
          · rw [if_pos hjp]
          · rw [if_neg hjp, getD_two (by omega) true false]
            exact hmark j (by omega)
        · rw [set_getD_t hisz, if_neg (by omega)]
          exact hI.open_ j (by omega) (by omega)

/-- THE RULE. -/
theorem wp_region {pre : List Oper} {last : Oper} {tl : List Oper} {id : Nat} (S T : Nat → Value → List Value → World → Prop) {w0 : World} (row : Nat → Obj → Prop) (sp : Nat) {a0 : Act} {Q : Exit → Act → World → Prop} (hm : P.follows .mixedOrders = true)
    (hok : ok pre last tl = true) (hin : (pre.all fun o => match o.dst with | some d => Nat.blt d a0.tmps.size | none => true) = true)
    (hob : Obs P pre S T w0 row sp a0 Q 0 pre) (hst : StaysAll S w0 row sp 0 pre.length) (hstT : ∀ k v ds w w', Keeps allK w w' → T k v ds w → T k v ds w')
    (hend : ∀ vals w, Keeps row w0 w → Said pre S vals w 0 pre.length → runTail P Q (last :: tl) (putAll vals pre 0 a0) w) :
    (Code.region id (pre ++ last :: tl).toArray true).wp P Q a0 w0 := by
  have hin' : ∀ o ∈ pre, ∀ d, o.dst = some d → d < a0.tmps.size := by
    intro o ho d hd
    have := List.all_eq_true.1 hin o ho
    rw [hd] at this
    exact Nat.blt_eq.mp this
  refine wp_region_any hm (wpAny_spec hok hin' hob hst hstT hend _ _ _ _ ⟨by simp, ?_, ?_, ?_, ⟨rfl, rfl, rfl, Nat.le_refl _, fun _ _ h _ => h⟩, fun _ => ⟨rfl, rfl, rfl, Nat.le_refl _, fun _ _ h _ => h⟩⟩ ?_)
  · intro i _ hi
    simp [hi]
  · intro i o _ h
    exfalso
    by_cases hi : i < pre.length + (tl.length + 1)
    · simp [hi] at h
    · simp [hi] at h
  · obtain ⟨vals, hv⟩ := putAll_start a0 pre 0 hin'
    have key : ∀ j, (Array.replicate (pre ++ last :: tl).toArray.size false).getD j false = true → False := fun j h => by
      by_cases hj : j < pre.length + (tl.length + 1)
      · simp [hj] at h
      · simp [hj] at h
    exact ⟨vals, hv, fun j _ h => absurd h (fun h => key j h), fun _ j _ h => absurd h (fun h => key j h)⟩
  · simp

/-- The rule, at a region as it stands; the last 't' operations are carried out behind the others, in their turn. -/
theorem wp_region_tail {l : List Oper} {id : Nat} (t : Nat) (S T : Nat → Value → List Value → World → Prop) {w0 : World} (row : Nat → Obj → Prop) (sp : Nat) {a0 : Act} {Q : Exit → Act → World → Prop} (hm : P.follows .mixedOrders = true)
    (hl : l.take (l.length - t) ++ (l.drop (l.length - t)).headD default :: (l.drop (l.length - t)).tail = l) (hok : ok (l.take (l.length - t)) ((l.drop (l.length - t)).headD default) (l.drop (l.length - t)).tail = true)
    (hin : ((l.take (l.length - t)).all fun o => match o.dst with | some d => Nat.blt d a0.tmps.size | none => true) = true)
    (hob : Obs P (l.take (l.length - t)) S T w0 row sp a0 Q 0 (l.take (l.length - t))) (hst : StaysAll S w0 row sp 0 (l.take (l.length - t)).length) (hstT : ∀ k v ds w w', Keeps allK w w' → T k v ds w → T k v ds w')
    (hend : ∀ vals w (G : Prop), Keeps row w0 w → Said (l.take (l.length - t)) S vals w 0 (l.take (l.length - t)).length → (runTail P Q (l.drop (l.length - t)) (putAll vals (l.take (l.length - t)) 0 a0) w → G) → G) :
    (Code.region id l.toArray true).wp P Q a0 w0 := by
  have hd : (l.drop (l.length - t)).headD default :: (l.drop (l.length - t)).tail = l.drop (l.length - t) := by
    have h2 := List.take_append_drop (l.length - t) l
    rw [← hl] at h2
    have h3 := hl
    conv at h3 => rhs; rw [← List.take_append_drop (l.length - t) l]
    exact List.append_cancel_left h3
  have h := wp_region (id := id) S T row sp hm hok hin hob hst hstT fun vals w h1 h2 => hend vals w _ h1 h2 (fun h => by rw [hd]; exact h)
  rw [hl] at h
  exact h

/-- .. the last one alone. -/
theorem wp_region_lit {l : List Oper} {id : Nat} (S T : Nat → Value → List Value → World → Prop) {w0 : World} (row : Nat → Obj → Prop) (sp : Nat) {a0 : Act} {Q : Exit → Act → World → Prop} (hm : P.follows .mixedOrders = true)
    (hl : l.dropLast ++ [l.getLastD default] = l) (hok : ok l.dropLast (l.getLastD default) [] = true)
    (hin : (l.dropLast.all fun o => match o.dst with | some d => Nat.blt d a0.tmps.size | none => true) = true)
    (hob : Obs P l.dropLast S T w0 row sp a0 Q 0 l.dropLast) (hst : StaysAll S w0 row sp 0 l.dropLast.length) (hstT : ∀ k v ds w w', Keeps allK w w' → T k v ds w → T k v ds w')
    (hend : ∀ vals w (G : Prop), Keeps row w0 w → Said l.dropLast S vals w 0 l.dropLast.length → ((l.getLastD default).wp P (putAll vals l.dropLast 0 a0) w (fun A' w' => Q .normal A' w') Q → G) → G) :
    (Code.region id l.toArray true).wp P Q a0 w0 := by
  have h := wp_region (id := id) S T row sp hm hok hin hob hst hstT fun vals w h1 h2 => hend vals w _ h1 h2 (fun h => h)
  rw [hl] at h
  exact h

end
end Rk
end Go.Proofs.YtghdjkpndhcplaaDoor
end
section
namespace Go.Proofs.YtghdjkpndhcplaaDoor
namespace Rt
open Rg Rk
/-- Each waits for earlier ones alone. -/
def backAll : Nat → List Oper → Bool
  | _, [] => true
  | k, o :: l => (bound o).all (fun j => Nat.blt j k) && backAll (k + 1) l
def okG (pre : List Oper) (last : Oper) (tl : List Oper) : Bool :=
  okAll pre 0 pre && Rg.distinct pre && backAll pre.length (last :: tl) && okTail (pre ++ last :: tl) pre.length (last :: tl)
theorem backAll_at : ∀ {l : List Oper} {k i : Nat} {o : Oper}, backAll k l = true → l[i]? = some o → ∀ j ∈ bound o, j < k + i
  | [], _, _, _, _, h => by simp at h
  | _ :: _, k, 0, o, h, hi => by
    simp at hi; subst hi
    unfold backAll at h
    simp only [Bool.and_eq_true] at h
    intro j hj
    have := Nat.blt_eq.mp (List.all_eq_true.1 h.1 j hj)
    omega
  | o' :: l, k, i + 1, o, h, hi => by
    unfold backAll at h
    simp only [Bool.and_eq_true] at h
    intro j hj
    have := backAll_at h.2 (by simpa using hi) j hj
    omega
section
variable {P : Program}
theorem wpAny_tailG {ops : List Oper} {Q : Exit → Act → World → Prop} (hback : ∀ (i : Nat) (o : Oper), ops[i]? = some o → ∀ j ∈ bound o, j < i) :
    ∀ (tl : List Oper) (m : Nat), ops.drop m = tl → okTail ops m tl = true → ∀ (fuel : Nat) (listed : Array Bool) (A : Act) (w : World), listed.size = ops.length → (∀ i, i < m → listed.getD i true = true) → (∀ i, m ≤ i → i < ops.length → listed.getD i true = false) →
      listed.toList.count false ≤ fuel → wpList P ops.toArray Q tl A w → wpAny P .any ops.toArray Q fuel listed A w := by
  intro tl
  induction tl with
  | nil =>
    intro m hd _ fuel listed A w hsz hlow _ _ hQ
    have hm : ops.length ≤ m := List.drop_eq_nil_iff.1 hd
    exact wpAny_done (ready_all fun j hj => hlow j (by simp at hj; omega)) hQ fuel
  | cons o tl ih =>
    intro m hd htl fuel listed A w hsz hlow hhigh hc hrun
    have hm : m < ops.length := by
      rcases Nat.lt_or_ge m ops.length with h | h
      · exact h
      · rw [List.drop_eq_nil_iff.2 h] at hd; cases hd
    have hom : ops[m]? = some o := by
      have : (ops.drop m)[0]? = some o := by rw [hd]; rfl
      simpa using this
    have hdt : ops.drop (m + 1) = tl := by
      have : (ops.drop m).drop 1 = tl := by rw [hd]; rfl
      rw [List.drop_drop] at this
      exact this
    have hu := hhigh m (Nat.le_refl m) hm
    cases fuel with
    | zero =>
      exfalso
      have := count_set (by omega) hu
      omega
    | succ fuel =>
      refine ⟨fun h0 => absurd h0 (ready_ne hsz hback m hm hu), fun i hi => ?_⟩
      obtain ⟨hun, o', ho', hall⟩ := mem_ready.1 hi
      have ho' : ops[i]? = some o' := by simpa using ho'
      have hil : i < ops.length := (List.getElem?_eq_some_iff.1 ho').1
      have hlisted : ∀ j, listed.getD j false = true → j < m := fun j hj => by
        rcases Nat.lt_or_ge j m with h | h
        · exact h
        · rcases Nat.lt_or_ge j ops.length with h2 | h2
          · have := hhigh j h h2
            rw [getD_two (by omega) true false] at this
            rw [this] at hj; cases hj
          · simp [Array.getElem?_eq_none (show listed.size ≤ j by omega)] at hj
      have him : i = m := by
        rcases Nat.lt_trichotomy i m with h | h | h
        · rw [hlow i h] at hun; cases hun
        · exact h
        · exfalso
          have hk : okTail ops m (o :: tl) = true := htl
          have hoi : (o :: tl)[i - m]? = some o' := by
            rw [← hd, List.getElem?_drop, show m + (i - m) = i by omega]
            exact ho'
          have hmk := okTail_at hk hoi m (by omega)
          rw [show m + (i - m) = i by omega] at hmk
          have hsub := marked_sub (ops := ops) (L := fun j => listed.getD j false = true) (fun a b hab hla j hj => by
            have h1 := hback a b hab j hj
            have h2 := hlisted a hla
            rw [getD_two (by omega) false true]
            exact hlow j (by omega)) i (bound o') (fun j hj => by
              obtain ⟨e, he, hb, rfl⟩ := mem_bound.1 hj
              exact hall e he hb) m hmk
          have := hlisted m hsub
          omega
      subst him
      rw [hom] at ho'
      injection ho' with ho'
      subst ho'
      unfold wpOp
      have hgo : ops.toArray[i]? = some o := by simpa using hom
      rw [hgo]
      have hk2 : okTail ops (i + 1) tl = true := by
        unfold okTail at htl
        simp only [Bool.and_eq_true] at htl
        exact htl.2
      have hcnt := count_set (l := listed) (i := i) (by omega) hun
      have key : ∀ A' w', wpList P ops.toArray Q tl A' w' → wpAny P .any ops.toArray Q fuel (listed.setIfInBounds i true) A' w' := fun A' w' hQ => by
        refine ih (i + 1) hdt hk2 fuel _ A' w' (by simpa using hsz) (fun j hj => ?_) (fun j h1 h2 => ?_) (by omega) hQ
        · rw [set_getD_t (by omega)]
          by_cases hji : j = i
          · rw [if_pos hji]
          · rw [if_neg hji]; exact hlow j (by omega)
        · rw [set_getD_t (by omega), if_neg (by omega)]; exact hhigh j (by omega) h2
      show if Region.wanted o (yielded ops.toArray A.tmps) = true then _ else _
      unfold wpList at hrun
      by_cases hw : Region.wanted o (yielded ops.toArray A.tmps) = true
      · rw [if_pos hw] at hrun ⊢
        exact hrun.imp (Oper.wp_mono key) id
      · rw [if_neg hw] at hrun ⊢
        exact key _ _ hrun

theorem wpAny_specG {pre : List Oper} {last : Oper} {tl : List Oper} {S T : Nat → Value → List Value → World → Prop} {w0 : World} {row : Nat → Obj → Prop} {sp : Nat} {a0 : Act} {Q : Exit → Act → World → Prop}
    (hok : okG pre last tl = true) (hin : ∀ o ∈ pre, ∀ d, o.dst = some d → d < a0.tmps.size)
    (hob : Obs P pre S T w0 row sp a0 Q 0 pre) (hst : StaysAll S w0 row sp 0 pre.length) (hstT : ∀ k v ds w w', Keeps allK w w' → T k v ds w → T k v ds w')
    (hend : ∀ vals w, Keeps row w0 w → Said pre S vals w 0 pre.length → wpList P (pre ++ last :: tl).toArray Q (last :: tl) (putAll vals pre 0 a0) w) :
    ∀ (fuel : Nat) (listed : Array Bool) (A : Act) (w : World), Inv pre last tl S T w0 row sp a0 listed A w → listed.toList.count false ≤ fuel → wpAny P .any (pre ++ last :: tl).toArray Q fuel listed A w := by
  unfold okG at hok
  simp only [Bool.and_eq_true] at hok
  obtain ⟨⟨⟨hok1, hok2⟩, hok4⟩, hok3⟩ := hok
  have hlen : (pre ++ last :: tl).length = pre.length + (tl.length + 1) := by simp
  have hback : ∀ (i : Nat) (o : Oper), (pre ++ last :: tl)[i]? = some o → ∀ j ∈ bound o, j < i := fun i o ho j hj => by
    rcases Nat.lt_or_ge i pre.length with h | h
    · rw [List.getElem?_append_left h] at ho
      have hokm := okAll_at hok1 ho
      unfold okOp at hokm
      simp only [Bool.and_eq_true, Nat.zero_add] at hokm
      exact Nat.blt_eq.mp (List.all_eq_true.1 hokm.1.2 j hj)
    · rw [List.getElem?_append_right h] at ho
      have := backAll_at hok4 ho j hj
      omega
  have hget : ∀ i : Nat, (pre ++ last :: tl).toArray[i]? = (pre ++ last :: tl)[i]? := fun i => by simp
  intro fuel
  induction fuel with
  | zero =>
    intro listed A w hI hc
    exfalso
    have hi : pre.length < listed.size := by rw [hI.size]; omega
    have := count_set hi (hI.open_ pre.length (Nat.le_refl _) (by omega))
    omega
  | succ fuel ih =>
    intro listed A w hI hc
    have hlsz := hI.size
    refine ⟨fun h0 => ?_, fun i hi => ?_⟩
    · exact absurd h0 (ready_ne (by rw [hlsz, hlen]) hback pre.length (by omega) (hI.open_ pre.length (Nat.le_refl _) (by omega)))
    · obtain ⟨hun, o, ho, hall⟩ := mem_ready.1 hi
      rw [hget] at ho
      have hilt : i < pre.length + (tl.length + 1) := by
        have := (List.getElem?_eq_some_iff.1 ho).1
        omega
      have hisz : i < listed.size := by omega
      have hallb : ∀ j ∈ bound o, listed.getD j false = true := fun j hj => by
        obtain ⟨e, he, hb, rfl⟩ := mem_bound.1 hj
        exact hall e he hb
      obtain ⟨vals, rfl, hS, hT⟩ := hI.vals
      unfold wpOp
      rw [hget, ho]
      show if Region.wanted o (yielded (pre ++ last :: tl).toArray (putAll vals pre 0 a0).tmps) = true then _ else _
      have hcnt := count_set hisz hun
      by_cases hin' : i < pre.length
      · have hopre : pre[i]? = some o := by rw [List.getElem?_append_left hin'] at ho; exact ho
        have hokm := okAll_at hok1 hopre
        unfold okOp at hokm
        simp only [Bool.and_eq_true, Nat.zero_add] at hokm
        have hwant : Region.wanted o (yielded (pre ++ last :: tl).toArray (putAll vals pre 0 a0).tmps) = true := by
          have : o.guard = none := Option.isNone_iff_eq_none.1 hokm.1.1
          simp [Region.wanted, this]
        rw [if_pos hwant]
        refine .inl ?_
        have hob' := obs_at hob hopre
        rw [Nat.zero_add] at hob'
        refine hob' (putAll vals pre 0 a0) w _ vals (facts_of fun x hx => ?_) (needs_of fun j hj => ?_) (fun hsp => needs_of fun j hj => ?_) ?_ ?_
        · cases x with
          | tmp t =>
            have hx' := List.all_eq_true.1 hokm.2 _ hx
            simp only [] at hx'
            show (match prodOf t pre 0 with | some j => (putAll vals pre 0 a0).eval (.tmp t) = vals j | none => (putAll vals pre 0 a0).eval (.tmp t) = a0.eval (.tmp t))
            cases hp : prodOf t pre 0 with
            | none => exact eval_none vals t pre 0 a0 hp
            | some j =>
              rw [hp] at hx'
              simp only [] at hx'
              have hj : j < pre.length ∧ ∃ o', pre[j]? = some o' ∧ o'.dst = some t := by
                have : ∀ (l : List Oper) (k j : Nat), prodOf t l k = some j → k ≤ j ∧ ∃ o', l[j - k]? = some o' ∧ o'.dst = some t := by
                  intro l
                  induction l with
                  | nil => intro k j h; cases h
                  | cons q l ihl =>
                    intro k j h
                    unfold prodOf at h
                    have rec_ : prodOf t l (k + 1) = some j → k ≤ j ∧ ∃ o', (q :: l)[j - k]? = some o' ∧ o'.dst = some t := fun h => by
                      obtain ⟨h1, o', h2, h3⟩ := ihl (k + 1) j h
                      refine ⟨by omega, o', ?_, h3⟩
                      rw [show j - k = (j - (k + 1)) + 1 by omega]
                      simpa using h2
                    cases hd : q.dst with
                    | none => rw [hd] at h; exact rec_ h
                    | some d =>
                      rw [hd] at h
                      simp only [] at h
                      by_cases hb : Nat.beq d t = true
                      · rw [if_pos hb] at h
                        injection h with h
                        subst h
                        exact ⟨Nat.le_refl _, q, by simp, by rw [hd, Nat.eq_of_beq_eq_true hb]⟩
                      · rw [if_neg hb] at h; exact rec_ h
                obtain ⟨_, o', h2, h3⟩ := this pre 0 j hp
                rw [Nat.sub_zero] at h2
                exact ⟨(List.getElem?_eq_some_iff.1 h2).1, o', h2, h3⟩
              obtain ⟨_, o', ho', hdst⟩ := hj
              exact eval_some vals t pre 0 j a0 hok2 hp (hin o' (List.mem_of_getElem? ho') t hdst)
          | _ => trivial
        · have hjm := Nat.blt_eq.mp (List.all_eq_true.1 hokm.1.2 j hj)
          exact hS j (by omega) (hallb j hj)
        · have hjm := Nat.blt_eq.mp (List.all_eq_true.1 hokm.1.2 j hj)
          obtain rfl : i = sp := Nat.eq_of_beq_eq_true hsp
          exact hT (by rw [getD_two hisz false true]; exact hun) j (by omega) (hallb j hj)
        · by_cases hsp : Nat.beq i sp = true
          · rw [if_pos hsp]
            refine hI.grown0 ?_
            obtain rfl : i = sp := Nat.eq_of_beq_eq_true hsp
            rw [getD_two hisz false true]
            exact hun
          · rw [if_neg hsp]
            exact hI.grown
        · intro v w' hg hSv hTv
          refine ih _ _ _ ?_ (by omega)
          refine ⟨by simp [hlsz], ?_, ?_, ⟨fun n => if n = 0 + i then v else vals n, putAll_upd vals v pre 0 i o a0 hok2 hopre, ?_, ?_⟩, ?_, ?_⟩
          · intro k hk1 hk2; rw [set_getD_t hisz, if_neg (by omega)]; exact hI.open_ k hk1 hk2
          · intro k ok' hk hkl j hj
            rw [set_getD hisz] at hkl ⊢
            by_cases hji : j = i
            · rw [if_pos hji]
            · rw [if_neg hji]
              by_cases hki : k = i
              · subst hki
                rw [ho] at hk
                injection hk with hk
                subst hk
                exact hallb j hj
              · rw [if_neg hki] at hkl
                exact hI.down k ok' hk hkl j hj
          · intro j hj hjl
            rw [set_getD hisz] at hjl
            simp only [Nat.zero_add]
            have hdeps : ∀ k, (k = i ∨ listed.getD k false = true) → k < pre.length → depsOf pre k (fun n => if n = i then v else vals n) = depsOf pre k vals := by
              intro k hk hkl
              unfold depsOf
              rw [List.getElem?_eq_getElem hkl]
              simp only []
              refine List.map_congr_left fun m hm => ?_
              have hne : m ≠ i := by
                rintro rfl
                have hkk : (pre ++ last :: tl)[k]? = some pre[k] := by rw [List.getElem?_append_left hkl]; exact List.getElem?_eq_getElem hkl
                have hlm : listed.getD m false = true := by
                  rcases hk with rfl | hk
                  · have : pre[k] = o := by rw [hkk] at ho; exact Option.some.inj ho
                    rw [this] at hm
                    exact hallb _ hm
                  · exact hI.down k _ hkk hk m hm
                rw [getD_two hisz false true, hun] at hlm
                cases hlm
              rw [if_neg hne]
            by_cases hji : j = i
            · subst hji
              have hdo : depsOf pre j vals = (bound o).map vals := by unfold depsOf; rw [hopre]
              unfold Sat
              rw [hdeps j (.inl rfl) hj, hdo]
              show S j (if j = j then v else vals j) _ _
              rw [if_pos rfl]
              exact hSv
            · rw [if_neg hji] at hjl
              have hstj := stays_at hst hj
              rw [Nat.zero_add] at hstj
              unfold Sat
              rw [hdeps j (.inr hjl) hj]
              show S j (if j = i then v else vals j) _ _
              rw [if_neg hji]
              refine hstj _ _ _ _ hI.grown.size ?_ (hS j hj hjl)
              by_cases hjs : Nat.beq j sp = true
              · rw [if_pos hjs]
                by_cases his : Nat.beq i sp = true
                · exact absurd ((Nat.eq_of_beq_eq_true hjs).trans (Nat.eq_of_beq_eq_true his).symm) hji
                · rw [if_neg his] at hg; exact hg
              · rw [if_neg hjs]
                by_cases his : Nat.beq i sp = true
                · rw [if_pos his] at hg; exact hg
                · rw [if_neg his] at hg; exact keep_weak hg
          · intro hspf j hj hjl
            rw [set_getD hisz] at hspf hjl
            by_cases hsi : sp = i
            · rw [if_pos hsi] at hspf; cases hspf
            · rw [if_neg hsi] at hspf
              have hnb : ¬ Nat.beq i sp = true := fun h => hsi (Nat.eq_of_beq_eq_true h).symm
              rw [if_neg hnb] at hg hTv
              have hdeps : ∀ k, (k = i ∨ listed.getD k false = true) → k < pre.length → depsOf pre k (fun n => if n = 0 + i then v else vals n) = depsOf pre k vals := by
                intro k hk hkl
                unfold depsOf
                rw [List.getElem?_eq_getElem hkl]
                simp only []
                refine List.map_congr_left fun m hm => ?_
                have hne : m ≠ 0 + i := by
                  rw [Nat.zero_add]
                  rintro rfl
                  have hkk : (pre ++ last :: tl)[k]? = some pre[k] := by rw [List.getElem?_append_left hkl]; exact List.getElem?_eq_getElem hkl
                  have hlm : listed.getD m false = true := by
                    rcases hk with rfl | hk
                    · have : pre[k] = o := by rw [hkk] at ho; exact Option.some.inj ho
                      rw [this] at hm
                      exact hallb _ hm
                    · exact hI.down k _ hkk hk m hm
                  rw [getD_two hisz false true, hun] at hlm
                  cases hlm
                rw [if_neg hne]
              unfold Sat
              by_cases hji : j = i
              · subst hji
                have hdo : depsOf pre j vals = (bound o).map vals := by unfold depsOf; rw [hopre]
                rw [hdeps j (.inl rfl) hj, hdo]
                show T j (if j = 0 + j then v else vals j) _ _
                rw [if_pos (by omega)]
                exact hTv
              · rw [if_neg hji] at hjl
                rw [hdeps j (.inr hjl) hj]
                show T j (if j = 0 + i then v else vals j) _ _
                rw [if_neg (by omega)]
                exact hstT _ _ _ _ _ hg (hT hspf j hj hjl)
          · refine hI.grown.trans ?_
            by_cases his : Nat.beq i sp = true
            · rw [if_pos his] at hg; exact hg
            · rw [if_neg his] at hg; exact keep_weak hg
          · intro hspf
            rw [set_getD hisz] at hspf
            by_cases hsi : sp = i
            · rw [if_pos hsi] at hspf; cases hspf
            · rw [if_neg hsi] at hspf
              refine (hI.grown0 hspf).trans ?_
              rw [if_neg (fun h => hsi (Nat.eq_of_beq_eq_true h).symm)] at hg
              exact hg
      · have hoi : (last :: tl)[i - pre.length]? = some o := by
          rw [List.getElem?_append_right (by omega)] at ho
          exact ho
        have hmark : ∀ j, j < i → listed.getD j false = true := by
          intro j hj
          have hm := okTail_at hok3 hoi j (by omega)
          rw [show pre.length + (i - pre.length) = i by omega] at hm
          exact marked_sub (ops := pre ++ last :: tl) (L := fun j => listed.getD j false = true) (fun a o' ha hl' j' hj' => hI.down a o' ha hl' j' hj') i (bound o) hallb j hm
        have hii : i = pre.length := by
          rcases Nat.lt_or_ge pre.length i with h | h
          · exfalso
            have h1 := hmark pre.length h
            rw [getD_two (by omega) false true, hI.open_ pre.length (Nat.le_refl _) (by omega)] at h1
            cases h1
          · omega
        subst hii
        have hol : o = last := by
          rw [Nat.sub_self] at hoi
          simpa using hoi.symm
        subst hol
        have hfin := hend vals w hI.grown (said_of fun j _ hj => hS j (by omega) (hmark j (by omega)))
        have hk2 : okTail (pre ++ o :: tl) (pre.length + 1) tl = true := by
          unfold okTail at hok3
          simp only [Bool.and_eq_true] at hok3
          exact hok3.2
        have key : ∀ A' w', wpList P (pre ++ o :: tl).toArray Q tl A' w' → wpAny P .any (pre ++ o :: tl).toArray Q fuel (listed.setIfInBounds pre.length true) A' w' := fun A' w' hQ => by
          refine wpAny_tailG hback tl (pre.length + 1) ?_ hk2 fuel _ A' w' (by rw [Array.size_setIfInBounds, hlsz, hlen]) (fun j hj => ?_) (fun j h1 h2 => ?_) (by omega) hQ
          · rw [show pre ++ o :: tl = (pre ++ [o]) ++ tl by simp]
            exact List.drop_left' (by simp)
          · rw [set_getD_t hisz]
            by_cases hjp : j = pre.length
            · rw [if_pos hjp]
            · rw [if_neg hjp, getD_two (by omega) true false]
              exact hmark j (by omega)
          · rw [set_getD_t hisz, if_neg (by omega)]
            exact hI.open_ j (by omega) (by omega)
        unfold wpList at hfin
        by_cases hw : Region.wanted o (yielded (pre ++ o :: tl).toArray (putAll vals pre 0 a0).tmps) = true
        · rw [if_pos hw] at hfin ⊢
          exact hfin.imp (Oper.wp_mono key) id
        · rw [if_neg hw] at hfin ⊢
          exact key _ _ hfin

/-- THE RULE. -/
theorem wp_region {pre : List Oper} {last : Oper} {tl : List Oper} {id : Nat} (S T : Nat → Value → List Value → World → Prop) {w0 : World} (row : Nat → Obj → Prop) (sp : Nat) {a0 : Act} {Q : Exit → Act → World → Prop} (hm : P.follows .mixedOrders = true)
    (hok : okG pre last tl = true) (hin : (pre.all fun o => match o.dst with | some d => Nat.blt d a0.tmps.size | none => true) = true)
    (hob : Obs P pre S T w0 row sp a0 Q 0 pre) (hst : StaysAll S w0 row sp 0 pre.length) (hstT : ∀ k v ds w w', Keeps allK w w' → T k v ds w → T k v ds w')
    (hend : ∀ vals w, Keeps row w0 w → Said pre S vals w 0 pre.length → wpList P (pre ++ last :: tl).toArray Q (last :: tl) (putAll vals pre 0 a0) w) :
    (Code.region id (pre ++ last :: tl).toArray true).wp P Q a0 w0 := by
  have hin' : ∀ o ∈ pre, ∀ d, o.dst = some d → d < a0.tmps.size := by
    intro o ho d hd
    have := List.all_eq_true.1 hin o ho
    rw [hd] at this
    exact Nat.blt_eq.mp this
  refine wp_region_any hm (wpAny_specG hok hin' hob hst hstT hend _ _ _ _ ⟨by simp, ?_, ?_, ?_, ⟨rfl, rfl, rfl, Nat.le_refl _, fun _ _ h _ => h⟩, fun _ => ⟨rfl, rfl, rfl, Nat.le_refl _, fun _ _ h _ => h⟩⟩ ?_)
  · intro i _ hi
    simp [hi]
  · intro i o _ h
    exfalso
    by_cases hi : i < pre.length + (tl.length + 1)
    · simp [hi] at h
    · simp [hi] at h
  · obtain ⟨vals, hv⟩ := putAll_start a0 pre 0 hin'
    have key : ∀ j, (Array.replicate (pre ++ last :: tl).toArray.size false).getD j false = true → False := fun j h => by
      by_cases hj : j < pre.length + (tl.length + 1)
      · simp [hj] at h
      · simp [hj] at h
    exact ⟨vals, hv, fun j _ h => absurd h (fun h => key j h), fun _ j _ h => absurd h (fun h => key j h)⟩
  · simp

/-- The rule, at a region as it stands; the last 't' operations are carried out behind the others, in their turn. -/
theorem wp_region_tail {l : List Oper} {id : Nat} (t : Nat) (S T : Nat → Value → List Value → World → Prop) {w0 : World} (row : Nat → Obj → Prop) (sp : Nat) {a0 : Act} {Q : Exit → Act → World → Prop} (hm : P.follows .mixedOrders = true)
    (hl : l.take (l.length - t) ++ (l.drop (l.length - t)).headD default :: (l.drop (l.length - t)).tail = l) (hok : okG (l.take (l.length - t)) ((l.drop (l.length - t)).headD default) (l.drop (l.length - t)).tail = true)
    (hin : ((l.take (l.length - t)).all fun o => match o.dst with | some d => Nat.blt d a0.tmps.size | none => true) = true)
    (hob : Obs P (l.take (l.length - t)) S T w0 row sp a0 Q 0 (l.take (l.length - t))) (hst : StaysAll S w0 row sp 0 (l.take (l.length - t)).length) (hstT : ∀ k v ds w w', Keeps allK w w' → T k v ds w → T k v ds w')
    (hend : ∀ vals w (G : Prop), Keeps row w0 w → Said (l.take (l.length - t)) S vals w 0 (l.take (l.length - t)).length → (wpList P l.toArray Q (l.drop (l.length - t)) (putAll vals (l.take (l.length - t)) 0 a0) w → G) → G) :
    (Code.region id l.toArray true).wp P Q a0 w0 := by
  have hd : (l.drop (l.length - t)).headD default :: (l.drop (l.length - t)).tail = l.drop (l.length - t) := by
    have h2 := List.take_append_drop (l.length - t) l
    rw [← hl] at h2
    have h3 := hl
    conv at h3 => rhs; rw [← List.take_append_drop (l.length - t) l]
    exact List.append_cancel_left h3
  have h := wp_region (id := id) S T row sp hm hok hin hob hst hstT fun vals w h1 h2 => hend vals w _ h1 h2 (fun h => by rw [hl, hd]; exact h)
  rw [hl] at h
  exact h

end
end Rt
end Go.Proofs.YtghdjkpndhcplaaDoor
end
