/- The rule for regions that draw their order, said of what is kept: which blocks a special operation leaves alone is told by what lies in them. -/
import Derived.Test.YtghdjkpndhcplaaRegion
namespace Go.Proofs.Ytghdjkpndhcplaa
namespace Rk
open Rg
/-- What K names is as it was; nothing has gone. -/
structure Keeps (K : Nat → Obj → Prop) (w w' : World) : Prop where
  os : w'.os = w.os
  tape : w'.tape = w.tape
  output : w'.output = w.output
  size : w.heap.size ≤ w'.heap.size
  block : ∀ k o, w.heap[k]? = some o → K k o → w'.heap[k]? = some o
def allK : Nat → Obj → Prop := fun _ _ => True
theorem Keeps.refl (K : Nat → Obj → Prop) (w : World) : Keeps K w w := ⟨rfl, rfl, rfl, Nat.le_refl _, fun _ _ h _ => h⟩
theorem Keeps.trans {K : Nat → Obj → Prop} {a b c : World} (h : Keeps K a b) (k : Keeps K b c) : Keeps K a c :=
  ⟨k.os.trans h.os, k.tape.trans h.tape, k.output.trans h.output, Nat.le_trans h.size k.size, fun i o ho hk => k.block i o (h.block i o ho hk) hk⟩
theorem keep_weak {w w' : World} {K : Nat → Obj → Prop} (h : Keeps allK w w') : Keeps K w w' := ⟨h.os, h.tape, h.output, h.size, fun k o ho _ => h.block k o ho trivial⟩
theorem keep_of {w w' : World} (h : w.grownBy w' none) : Keeps allK w w' := ⟨h.os, h.tape, h.output, h.size, fun k o ho _ => (h.block k (Array.getElem?_eq_some_iff.1 ho).1 (by simp)).trans ho⟩
theorem grown_of {w w' : World} (h : Keeps allK w w') : w.grownBy w' none := ⟨h.os, h.tape, h.output, h.size, fun k hk _ => by
  have := h.block k _ (Array.getElem?_eq_getElem hk) trivial
  rw [this]
  exact (Array.getElem?_eq_getElem hk).symm⟩

/-! ### What is to be shown -/
section
variable (P : Program)

/-- Of one operation: carried out where what it waits for has been done, it leaves a value of which its own is said; the row 'row' is written by operation 'sp' alone. -/
def Ob (pre : List Oper) (S T : Nat → Value → List Value → World → Prop) (w0 : World) (row : Nat → Obj → Prop) (sp : Nat) (a0 : Act) (Q : Exit → Act → World → Prop) (k : Nat) (o : Oper) : Prop :=
  ∀ (A : Act) (w : World) (K : Act → World → Prop) (vals : Nat → Value), facts pre a0 A vals o.op.operands.toList → needs pre S vals w (bound o) → (Nat.beq k sp = true → needs pre T vals w (bound o)) → Keeps (if Nat.beq k sp then allK else row) w0 w →
    (∀ v w', Keeps (if Nat.beq k sp then row else allK) w w' → S k v ((bound o).map vals) w' → (if Nat.beq k sp then True else T k v ((bound o).map vals) w') → K (A.put o.dst v) w') → o.wp P A w K Q

def Obs (pre : List Oper) (S T : Nat → Value → List Value → World → Prop) (w0 : World) (row : Nat → Obj → Prop) (sp : Nat) (a0 : Act) (Q : Exit → Act → World → Prop) : Nat → List Oper → Prop
  | _, [] => True
  | k, o :: l => Ob P pre S T w0 row sp a0 Q k o ∧ Obs pre S T w0 row sp a0 Q (k + 1) l

/-- What is said of a value stays: behind every operation but its own. -/
def Stays (S : Nat → Value → List Value → World → Prop) (w0 : World) (row : Nat → Obj → Prop) (sp k : Nat) : Prop :=
  ∀ v ds w w', w0.heap.size ≤ w.heap.size → Keeps (if Nat.beq k sp then allK else row) w w' → S k v ds w → S k v ds w'

def StaysAll (S : Nat → Value → List Value → World → Prop) (w0 : World) (row : Nat → Obj → Prop) (sp : Nat) : Nat → Nat → Prop
  | _, 0 => True
  | k, n + 1 => Stays S w0 row sp k ∧ StaysAll S w0 row sp (k + 1) n

variable {P}
theorem obs_at {pre : List Oper} {S T : Nat → Value → List Value → World → Prop} {w0 : World} {row : Nat → Obj → Prop} {sp : Nat} {a0 : Act} {Q : Exit → Act → World → Prop} :
    ∀ {l : List Oper} {k i : Nat} {o : Oper}, Obs P pre S T w0 row sp a0 Q k l → l[i]? = some o → Ob P pre S T w0 row sp a0 Q (k + i) o
  | [], _, _, _, _, h => by simp at h
  | _ :: _, k, 0, o, h, hi => by simp at hi; subst hi; exact h.1
  | o' :: l, k, i + 1, o, h, hi => by
    rw [show k + (i + 1) = k + 1 + i by omega]
    exact obs_at h.2 (by simpa using hi)

theorem stays_at {S : Nat → Value → List Value → World → Prop} {w0 : World} {row : Nat → Obj → Prop} {sp : Nat} : ∀ {n k i : Nat}, StaysAll S w0 row sp k n → i < n → Stays S w0 row sp (k + i)
  | 0, _, _, _, h => by omega
  | n + 1, k, 0, h, _ => h.1
  | n + 1, k, i + 1, h, hi => by
    rw [show k + (i + 1) = k + 1 + i by omega]
    exact stays_at h.2 (by omega)

structure Inv (pre : List Oper) (last : Oper) (tl : List Oper) (S T : Nat → Value → List Value → World → Prop) (w0 : World) (row : Nat → Obj → Prop) (sp : Nat) (a0 : Act) (listed : Array Bool) (A : Act) (w : World) : Prop where
  size : listed.size = pre.length + (tl.length + 1)
  open_ : ∀ i, pre.length ≤ i → i < pre.length + (tl.length + 1) → listed.getD i true = false
  down : ∀ i o, (pre ++ last :: tl)[i]? = some o → listed.getD i false = true → ∀ j ∈ bound o, listed.getD j false = true
  vals : ∃ vals : Nat → Value, A = putAll vals pre 0 a0 ∧ (∀ j, j < pre.length → listed.getD j false = true → Sat pre S vals w j) ∧ (listed.getD sp false = false → ∀ j, j < pre.length → listed.getD j false = true → Sat pre T vals w j)
  grown : Keeps row w0 w
  grown0 : listed.getD sp false = false → Keeps allK w0 w

theorem wpAny_spec {pre : List Oper} {last : Oper} {tl : List Oper} {S T : Nat → Value → List Value → World → Prop} {w0 : World} {row : Nat → Obj → Prop} {sp : Nat} {a0 : Act} {Q : Exit → Act → World → Prop}
    (hok : ok pre last tl = true) (hin : ∀ o ∈ pre, ∀ d, o.dst = some d → d < a0.tmps.size)
    (hob : Obs P pre S T w0 row sp a0 Q 0 pre) (hst : StaysAll S w0 row sp 0 pre.length) (hstT : ∀ k v ds w w', Keeps allK w w' → T k v ds w → T k v ds w')
    (hend : ∀ vals w, Keeps row w0 w → Said pre S vals w 0 pre.length → runTail P Q (last :: tl) (putAll vals pre 0 a0) w) :
    ∀ (fuel : Nat) (listed : Array Bool) (A : Act) (w : World), Inv pre last tl S T w0 row sp a0 listed A w → listed.toList.count false ≤ fuel → wpAny P .any (pre ++ last :: tl).toArray Q fuel listed A w := by
  unfold ok at hok
  simp only [Bool.and_eq_true] at hok
  obtain ⟨⟨hok1, hok2⟩, hok3⟩ := hok
  have hlen : (pre ++ last :: tl).length = pre.length + (tl.length + 1) := by simp
  have hback : ∀ (i : Nat) (o : Oper), (pre ++ last :: tl)[i]? = some o → ∀ j ∈ bound o, j < i := fun i o ho j hj => by
    have hokm := okAll_at hok1 ho
    unfold okOp at hokm
    simp only [Bool.and_eq_true, Nat.zero_add] at hokm
    exact Nat.blt_eq.mp (List.all_eq_true.1 hokm.1.2 j hj)
  have hguard : ∀ o ∈ pre ++ last :: tl, o.guard = none := fun o ho => by
    obtain ⟨i, hi, rfl⟩ := List.getElem_of_mem ho
    have hokm := okAll_at hok1 (List.getElem?_eq_getElem hi)
    unfold okOp at hokm
    simp only [Bool.and_eq_true, Nat.zero_add] at hokm
    exact Option.isNone_iff_eq_none.1 hokm.1.1
  have hget : ∀ i : Nat, (pre ++ last :: tl).toArray[i]? = (pre ++ last :: tl)[i]? := fun i => by simp
  intro fuel
  induction fuel with
  | zero =>
    intro listed A w hI hc
    exfalso
    have hi : pre.length < listed.size := by rw [hI.size]; omega
    have := count_set hi (hI.open_ pre.length (Nat.le_refl _) (by omega))
    omega
  | succ fuel ih =>
    intro listed A w hI hc
    have hlsz := hI.size
    refine ⟨fun h0 => ?_, fun i hi => ?_⟩
    · exact absurd h0 (ready_ne (by rw [hlsz, hlen]) hback pre.length (by omega) (hI.open_ pre.length (Nat.le_refl _) (by omega)))
    · obtain ⟨hun, o, ho, hall⟩ := mem_ready.1 hi
      rw [hget] at ho
      have hilt : i < pre.length + (tl.length + 1) := by
        have := (List.getElem?_eq_some_iff.1 ho).1
        omega
      have hisz : i < listed.size := by omega
      have hallb : ∀ j ∈ bound o, listed.getD j false = true := fun j hj => by
        obtain ⟨e, he, hb, rfl⟩ := mem_bound.1 hj
        exact hall e he hb
      have hokm := okAll_at hok1 ho
      unfold okOp at hokm
      simp only [Bool.and_eq_true, Nat.zero_add] at hokm
      have hwant : Region.wanted o (yielded (pre ++ last :: tl).toArray A.tmps) = true := by
        have : o.guard = none := Option.isNone_iff_eq_none.1 hokm.1.1
        simp [Region.wanted, this]
      obtain ⟨vals, rfl, hS, hT⟩ := hI.vals
      unfold wpOp
      rw [hget, ho]
      show if Region.wanted o (yielded (pre ++ last :: tl).toArray (putAll vals pre 0 a0).tmps) = true then _ else _
      rw [if_pos hwant]
      refine .inl ?_
      have hcnt := count_set hisz hun
      by_cases hin' : i < pre.length
      · have hopre : pre[i]? = some o := by rw [List.getElem?_append_left hin'] at ho; exact ho
        have hob' := obs_at hob hopre
        rw [Nat.zero_add] at hob'
        refine hob' (putAll vals pre 0 a0) w _ vals (facts_of fun x hx => ?_) (needs_of fun j hj => ?_) (fun hsp => needs_of fun j hj => ?_) ?_ ?_
        · cases x with
          | tmp t =>
            have hx' := List.all_eq_true.1 hokm.2 _ hx
            simp only [] at hx'
            show (match prodOf t pre 0 with | some j => (putAll vals pre 0 a0).eval (.tmp t) = vals j | none => (putAll vals pre 0 a0).eval (.tmp t) = a0.eval (.tmp t))
            cases hp : prodOf t pre 0 with
            | none => exact eval_none vals t pre 0 a0 hp
            | some j =>
              rw [hp] at hx'
              simp only [] at hx'
              have hj : j < pre.length ∧ ∃ o', pre[j]? = some o' ∧ o'.dst = some t := by
                have : ∀ (l : List Oper) (k j : Nat), prodOf t l k = some j → k ≤ j ∧ ∃ o', l[j - k]? = some o' ∧ o'.dst = some t := by
                  intro l
                  induction l with
                  | nil => intro k j h; cases h
                  | cons q l ihl =>
                    intro k j h
                    unfold prodOf at h
                    have rec_ : prodOf t l (k + 1) = some j → k ≤ j ∧ ∃ o', (q :: l)[j - k]? = some o' ∧ o'.dst = some t := fun h => by
                      obtain ⟨h1, o', h2, h3⟩ := ihl (k + 1) j h
                      refine ⟨by omega, o', ?_, h3⟩
                      rw [show j - k = (j - (k + 1)) + 1 by omega]
                      simpa using h2
                    cases hd : q.dst with
                    | none => rw [hd] at h; exact rec_ h
                    | some d =>
                      rw [hd] at h
                      simp only [] at h
                      by_cases hb : Nat.beq d t = true
                      · rw [if_pos hb] at h
                        injection h with h
                        subst h
                        exact ⟨Nat.le_refl _, q, by simp, by rw [hd, Nat.eq_of_beq_eq_true hb]⟩
                      · rw [if_neg hb] at h; exact rec_ h
                obtain ⟨_, o', h2, h3⟩ := this pre 0 j hp
                rw [Nat.sub_zero] at h2
                exact ⟨(List.getElem?_eq_some_iff.1 h2).1, o', h2, h3⟩
              obtain ⟨_, o', ho', hdst⟩ := hj
              exact eval_some vals t pre 0 j a0 hok2 hp (hin o' (List.mem_of_getElem? ho') t hdst)
          | _ => trivial
        · have hjm := Nat.blt_eq.mp (List.all_eq_true.1 hokm.1.2 j hj)
          exact hS j (by omega) (hallb j hj)
        · have hjm := Nat.blt_eq.mp (List.all_eq_true.1 hokm.1.2 j hj)
          obtain rfl : i = sp := Nat.eq_of_beq_eq_true hsp
          exact hT (by rw [getD_two hisz false true]; exact hun) j (by omega) (hallb j hj)
        · by_cases hsp : Nat.beq i sp = true
          · rw [if_pos hsp]
            refine hI.grown0 ?_
            obtain rfl : i = sp := Nat.eq_of_beq_eq_true hsp
            rw [getD_two hisz false true]
            exact hun
          · rw [if_neg hsp]
            exact hI.grown
        · intro v w' hg hSv hTv
          refine ih _ _ _ ?_ (by omega)
          refine ⟨by simp [hlsz], ?_, ?_, ⟨fun n => if n = 0 + i then v else vals n, putAll_upd vals v pre 0 i o a0 hok2 hopre, ?_, ?_⟩, ?_, ?_⟩
          · intro k hk1 hk2; rw [set_getD_t hisz, if_neg (by omega)]; exact hI.open_ k hk1 hk2
          · intro k ok' hk hkl j hj
            rw [set_getD hisz] at hkl ⊢
            by_cases hji : j = i
            · rw [if_pos hji]
            · rw [if_neg hji]
              by_cases hki : k = i
              · subst hki
                rw [ho] at hk
                injection hk with hk
                subst hk
                exact hallb j hj
              · rw [if_neg hki] at hkl
                exact hI.down k ok' hk hkl j hj
          · intro j hj hjl
            rw [set_getD hisz] at hjl
            simp only [Nat.zero_add]
            have hdeps : ∀ k, (k = i ∨ listed.getD k false = true) → k < pre.length → depsOf pre k (fun n => if n = i then v else vals n) = depsOf pre k vals := by
              intro k hk hkl
              unfold depsOf
              rw [List.getElem?_eq_getElem hkl]
              simp only []
              refine List.map_congr_left fun m hm => ?_
              have hne : m ≠ i := by
                rintro rfl
                have hkk : (pre ++ last :: tl)[k]? = some pre[k] := by rw [List.getElem?_append_left hkl]; exact List.getElem?_eq_getElem hkl
                have hlm : listed.getD m false = true := by
                  rcases hk with rfl | hk
                  · have : pre[k] = o := by rw [hkk] at ho; exact Option.some.inj ho
                    rw [this] at hm
                    exact hallb _ hm
                  · exact hI.down k _ hkk hk m hm
                rw [getD_two hisz false true, hun] at hlm
                cases hlm
              rw [if_neg hne]
            by_cases hji : j = i
            · subst hji
              have hdo : depsOf pre j vals = (bound o).map vals := by unfold depsOf; rw [hopre]
              unfold Sat
              rw [hdeps j (.inl rfl) hj, hdo]
              show S j (if j = j then v else vals j) _ _
              rw [if_pos rfl]
              exact hSv
            · rw [if_neg hji] at hjl
              have hstj := stays_at hst hj
              rw [Nat.zero_add] at hstj
              unfold Sat
              rw [hdeps j (.inr hjl) hj]
              show S j (if j = i then v else vals j) _ _
              rw [if_neg hji]
              refine hstj _ _ _ _ hI.grown.size ?_ (hS j hj hjl)
              by_cases hjs : Nat.beq j sp = true
              · rw [if_pos hjs]
                by_cases his : Nat.beq i sp = true
                · exact absurd ((Nat.eq_of_beq_eq_true hjs).trans (Nat.eq_of_beq_eq_true his).symm) hji
                · rw [if_neg his] at hg; exact hg
              · rw [if_neg hjs]
                by_cases his : Nat.beq i sp = true
                · rw [if_pos his] at hg; exact hg
                · rw [if_neg his] at hg; exact keep_weak hg
          · intro hspf j hj hjl
            rw [set_getD hisz] at hspf hjl
            by_cases hsi : sp = i
            · rw [if_pos hsi] at hspf; cases hspf
            · rw [if_neg hsi] at hspf
              have hnb : ¬ Nat.beq i sp = true := fun h => hsi (Nat.eq_of_beq_eq_true h).symm
              rw [if_neg hnb] at hg hTv
              have hdeps : ∀ k, (k = i ∨ listed.getD k false = true) → k < pre.length → depsOf pre k (fun n => if n = 0 + i then v else vals n) = depsOf pre k vals := by
                intro k hk hkl
                unfold depsOf
                rw [List.getElem?_eq_getElem hkl]
                simp only []
                refine List.map_congr_left fun m hm => ?_
                have hne : m ≠ 0 + i := by
                  rw [Nat.zero_add]
                  rintro rfl
                  have hkk : (pre ++ last :: tl)[k]? = some pre[k] := by rw [List.getElem?_append_left hkl]; exact List.getElem?_eq_getElem hkl
                  have hlm : listed.getD m false = true := by
                    rcases hk with rfl | hk
                    · have : pre[k] = o := by rw [hkk] at ho; exact Option.some.inj ho
                      rw [this] at hm
                      exact hallb _ hm
                    · exact hI.down k _ hkk hk m hm
                  rw [getD_two hisz false true, hun] at hlm
                  cases hlm
                rw [if_neg hne]
              unfold Sat
              by_cases hji : j = i
              · subst hji
                have hdo : depsOf pre j vals = (bound o).map vals := by unfold depsOf; rw [hopre]
                rw [hdeps j (.inl rfl) hj, hdo]
                show T j (if j = 0 + j then v else vals j) _ _
                rw [if_pos (by omega)]
                exact hTv
              · rw [if_neg hji] at hjl
                rw [hdeps j (.inr hjl) hj]
                show T j (if j = 0 + i then v else vals j) _ _
                rw [if_neg (by omega)]
                exact hstT _ _ _ _ _ hg (hT hspf j hj hjl)
          · refine hI.grown.trans ?_
            by_cases his : Nat.beq i sp = true
            · rw [if_pos his] at hg; exact hg
            · rw [if_neg his] at hg; exact keep_weak hg
          · intro hspf
            rw [set_getD hisz] at hspf
            by_cases hsi : sp = i
            · rw [if_pos hsi] at hspf; cases hspf
            · rw [if_neg hsi] at hspf
              refine (hI.grown0 hspf).trans ?_
              rw [if_neg (fun h => hsi (Nat.eq_of_beq_eq_true h).symm)] at hg
              exact hg
      · have hoi : (last :: tl)[i - pre.length]? = some o := by
          rw [List.getElem?_append_right (by omega)] at ho
          exact ho
        have hmark : ∀ j, j < i → listed.getD j false = true := by
          intro j hj
          have hm := okTail_at hok3 hoi j (by omega)
          rw [show pre.length + (i - pre.length) = i by omega] at hm
          exact marked_sub (ops := pre ++ last :: tl) (L := fun j => listed.getD j false = true) (fun a o' ha hl' j' hj' => hI.down a o' ha hl' j' hj') i (bound o) hallb j hm
        have hii : i = pre.length := by
          rcases Nat.lt_or_ge pre.length i with h | h
          · exfalso
            have h1 := hmark pre.length h
            rw [getD_two (by omega) false true, hI.open_ pre.length (Nat.le_refl _) (by omega)] at h1
            cases h1
          · omega
        subst hii
        have hol : o = last := by
          rw [Nat.sub_self] at hoi
          simpa using hoi.symm
        subst hol
        refine Oper.wp_mono (fun A' w' hQ => ?_) (hend vals w hI.grown (said_of fun j _ hj => hS j (by omega) (hmark j (by omega))))
        have hk2 : okTail (pre ++ o :: tl) (pre.length + 1) tl = true := by
          unfold okTail at hok3
          simp only [Bool.and_eq_true] at hok3
          exact hok3.2
        refine wpAny_tail hback hguard tl (pre.length + 1) ?_ hk2 fuel _ A' w' (by rw [Array.size_setIfInBounds, hlsz, hlen]) (fun j hj => ?_) (fun j h1 h2 => ?_) (by omega) hQ
        · rw [show pre ++ o :: tl = (pre ++ [o]) ++ tl by simp]
          exact List.drop_left' (by simp)
        · rw [set_getD_t hisz]
          by_cases hjp : j = pre.length
          · rw [if_pos hjp]
          · rw [if_neg hjp, getD_two (by omega) true false]
            exact hmark j (by omega)
        · rw [set_getD_t hisz, if_neg (by omega)]
          exact hI.open_ j (by omega) (by omega)

/-- THE RULE. -/
theorem wp_region {pre : List Oper} {last : Oper} {tl : List Oper} {id : Nat} (S T : Nat → Value → List Value → World → Prop) {w0 : World} (row : Nat → Obj → Prop) (sp : Nat) {a0 : Act} {Q : Exit → Act → World → Prop} (hm : P.follows .mixedOrders = true)
    (hok : ok pre last tl = true) (hin : (pre.all fun o => match o.dst with | some d => Nat.blt d a0.tmps.size | none => true) = true)
    (hob : Obs P pre S T w0 row sp a0 Q 0 pre) (hst : StaysAll S w0 row sp 0 pre.length) (hstT : ∀ k v ds w w', Keeps allK w w' → T k v ds w → T k v ds w')
    (hend : ∀ vals w, Keeps row w0 w → Said pre S vals w 0 pre.length → runTail P Q (last :: tl) (putAll vals pre 0 a0) w) :
    (Code.region id (pre ++ last :: tl).toArray true).wp P Q a0 w0 := by
  have hin' : ∀ o ∈ pre, ∀ d, o.dst = some d → d < a0.tmps.size := by
    intro o ho d hd
    have := List.all_eq_true.1 hin o ho
    rw [hd] at this
    exact Nat.blt_eq.mp this
  refine wp_region_any hm (wpAny_spec hok hin' hob hst hstT hend _ _ _ _ ⟨by simp, ?_, ?_, ?_, ⟨rfl, rfl, rfl, Nat.le_refl _, fun _ _ h _ => h⟩, fun _ => ⟨rfl, rfl, rfl, Nat.le_refl _, fun _ _ h _ => h⟩⟩ ?_)
  · intro i _ hi
    simp [hi]
  · intro i o _ h
    exfalso
    by_cases hi : i < pre.length + (tl.length + 1)
    · simp [hi] at h
    · simp [hi] at h
  · obtain ⟨vals, hv⟩ := putAll_start a0 pre 0 hin'
    have key : ∀ j, (Array.replicate (pre ++ last :: tl).toArray.size false).getD j false = true → False := fun j h => by
      by_cases hj : j < pre.length + (tl.length + 1)
      · simp [hj] at h
      · simp [hj] at h
    exact ⟨vals, hv, fun j _ h => absurd h (fun h => key j h), fun _ j _ h => absurd h (fun h => key j h)⟩
  · simp

/-- The rule, at a region as it stands; the last 't' operations are carried out behind the others, in their turn. -/
theorem wp_region_tail {l : List Oper} {id : Nat} (t : Nat) (S T : Nat → Value → List Value → World → Prop) {w0 : World} (row : Nat → Obj → Prop) (sp : Nat) {a0 : Act} {Q : Exit → Act → World → Prop} (hm : P.follows .mixedOrders = true)
    (hl : l.take (l.length - t) ++ (l.drop (l.length - t)).headD default :: (l.drop (l.length - t)).tail = l) (hok : ok (l.take (l.length - t)) ((l.drop (l.length - t)).headD default) (l.drop (l.length - t)).tail = true)
    (hin : ((l.take (l.length - t)).all fun o => match o.dst with | some d => Nat.blt d a0.tmps.size | none => true) = true)
    (hob : Obs P (l.take (l.length - t)) S T w0 row sp a0 Q 0 (l.take (l.length - t))) (hst : StaysAll S w0 row sp 0 (l.take (l.length - t)).length) (hstT : ∀ k v ds w w', Keeps allK w w' → T k v ds w → T k v ds w')
    (hend : ∀ vals w (G : Prop), Keeps row w0 w → Said (l.take (l.length - t)) S vals w 0 (l.take (l.length - t)).length → (runTail P Q (l.drop (l.length - t)) (putAll vals (l.take (l.length - t)) 0 a0) w → G) → G) :
    (Code.region id l.toArray true).wp P Q a0 w0 := by
  have hd : (l.drop (l.length - t)).headD default :: (l.drop (l.length - t)).tail = l.drop (l.length - t) := by
    have h2 := List.take_append_drop (l.length - t) l
    rw [← hl] at h2
    have h3 := hl
    conv at h3 => rhs; rw [← List.take_append_drop (l.length - t) l]
    exact List.append_cancel_left h3
  have h := wp_region (id := id) S T row sp hm hok hin hob hst hstT fun vals w h1 h2 => hend vals w _ h1 h2 (fun h => by rw [hd]; exact h)
  rw [hl] at h
  exact h

/-- .. the last one alone. -/
theorem wp_region_lit {l : List Oper} {id : Nat} (S T : Nat → Value → List Value → World → Prop) {w0 : World} (row : Nat → Obj → Prop) (sp : Nat) {a0 : Act} {Q : Exit → Act → World → Prop} (hm : P.follows .mixedOrders = true)
    (hl : l.dropLast ++ [l.getLastD default] = l) (hok : ok l.dropLast (l.getLastD default) [] = true)
    (hin : (l.dropLast.all fun o => match o.dst with | some d => Nat.blt d a0.tmps.size | none => true) = true)
    (hob : Obs P l.dropLast S T w0 row sp a0 Q 0 l.dropLast) (hst : StaysAll S w0 row sp 0 l.dropLast.length) (hstT : ∀ k v ds w w', Keeps allK w w' → T k v ds w → T k v ds w')
    (hend : ∀ vals w (G : Prop), Keeps row w0 w → Said l.dropLast S vals w 0 l.dropLast.length → ((l.getLastD default).wp P (putAll vals l.dropLast 0 a0) w (fun A' w' => Q .normal A' w') Q → G) → G) :
    (Code.region id l.toArray true).wp P Q a0 w0 := by
  have h := wp_region (id := id) S T row sp hm hok hin hob hst hstT fun vals w h1 h2 => hend vals w _ h1 h2 (fun h => h)
  rw [hl] at h
  exact h

end
end Rk
end Go.Proofs.Ytghdjkpndhcplaa
