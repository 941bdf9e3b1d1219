/- The rule for regions that draw their order, where no operation waits for all: each is said what it leaves. -/
import Derived.Test.YtghdjkpndhcplaaDoorReg
import Derived.Tactics
namespace Go.Proofs.YtghdjkpndhcplaaDoor
namespace Rz
open Rg Rk
def okZ (pre : List Oper) : Bool := okAll pre 0 pre && Rg.distinct pre
structure Inv (pre : List Oper) (S T : Nat → Value → List Value → World → Prop) (w0 : World) (row : Nat → Obj → Prop) (sp : Nat) (a0 : Act) (listed : Array Bool) (A : Act) (w : World) : Prop where
  size : listed.size = pre.length
  down : ∀ (i : Nat) (o : Oper), pre[i]? = some o → listed.getD i false = true → ∀ j ∈ bound o, listed.getD j false = true
  vals : ∃ vals : Nat → Value, A = putAll vals pre 0 a0 ∧ (∀ j, j < pre.length → listed.getD j false = true → Sat pre S vals w j) ∧ (listed.getD sp false = false → ∀ j, j < pre.length → listed.getD j false = true → Sat pre T vals w j)
  grown : Keeps row w0 w
  grown0 : listed.getD sp false = false → Keeps allK w0 w
section
variable {P : Program}
theorem wpAny_specZ {pre : List Oper} {S T : Nat → Value → List Value → World → Prop} {w0 : World} {row : Nat → Obj → Prop} {sp : Nat} {a0 : Act} {Q : Exit → Act → World → Prop}
    (hok : okZ pre = true) (hin : ∀ o ∈ pre, ∀ d, o.dst = some d → d < a0.tmps.size)
    (hob : Obs P pre S T w0 row sp a0 Q 0 pre) (hst : StaysAll S w0 row sp 0 pre.length) (hstT : ∀ k v ds w w', Keeps allK w w' → T k v ds w → T k v ds w')
    (hend : ∀ vals w, Keeps row w0 w → Said pre S vals w 0 pre.length → Q .normal (putAll vals pre 0 a0) w) :
    ∀ (fuel : Nat) (listed : Array Bool) (A : Act) (w : World), Inv pre S T w0 row sp a0 listed A w → listed.toList.count false ≤ fuel → wpAny P .any pre.toArray Q fuel listed A w := by
  unfold okZ at hok
  simp only [Bool.and_eq_true] at hok
  obtain ⟨hok1, hok2⟩ := hok
  have hback : ∀ (i : Nat) (o : Oper), pre[i]? = some o → ∀ j ∈ bound o, j < i := fun i o ho j hj => by
    have hokm := okAll_at hok1 ho
    unfold okOp at hokm
    simp only [Bool.and_eq_true, Nat.zero_add] at hokm
    exact Nat.blt_eq.mp (List.all_eq_true.1 hokm.1.2 j hj)
  have hget : ∀ i : Nat, pre.toArray[i]? = pre[i]? := fun i => by simp
  have hdone : ∀ (listed : Array Bool) (A : Act) (w : World), Inv pre S T w0 row sp a0 listed A w → (∀ j, j < pre.length → listed.getD j true = true) → Q .normal A w := fun listed A w hI hall => by
    obtain ⟨vals, rfl, hS, -⟩ := hI.vals
    refine hend vals w hI.grown (said_of fun j _ hj => hS j (by omega) ?_)
    rw [getD_two (by rw [hI.size]; omega) false true]
    exact hall j (by omega)
  intro fuel
  induction fuel with
  | zero =>
    intro listed A w hI hc
    have hall : ∀ j, j < pre.length → listed.getD j true = true := fun j hj => by
      cases h : listed.getD j true
      · have := count_set (by rw [hI.size]; exact hj) h
        omega
      · rfl
    exact wpAny_done (ready_all fun j hj => hall j (by simpa using hj)) (hdone listed A w hI hall) 0
  | succ fuel ih =>
    intro listed A w hI hc
    have hlsz := hI.size
    refine ⟨fun h0 => ?_, fun i hi => ?_⟩
    · refine hdone listed A w hI fun j hj => ?_
      cases h : listed.getD j true
      · exact absurd h0 (ready_ne hlsz hback j hj h)
      · rfl
    · obtain ⟨hun, o, ho, hall⟩ := mem_ready.1 hi
      rw [hget] at ho
      have hin' : i < pre.length := (List.getElem?_eq_some_iff.1 ho).1
      have hisz : i < listed.size := by omega
      have hallb : ∀ j ∈ bound o, listed.getD j false = true := fun j hj => by
        obtain ⟨e, he, hb, rfl⟩ := mem_bound.1 hj
        exact hall e he hb
      obtain ⟨vals, rfl, hS, hT⟩ := hI.vals
      unfold wpOp
      rw [hget, ho]
      show if Region.wanted o (yielded pre.toArray (putAll vals pre 0 a0).tmps) = true then _ else _
      have hcnt := count_set hisz hun
      have hopre : pre[i]? = some o := ho
      have hokm := okAll_at hok1 hopre
      unfold okOp at hokm
      simp only [Bool.and_eq_true, Nat.zero_add] at hokm
      have hwant : Region.wanted o (yielded (pre).toArray (putAll vals pre 0 a0).tmps) = true := by
        have : o.guard = none := Option.isNone_iff_eq_none.1 hokm.1.1
        simp [Region.wanted, this]
      rw [if_pos hwant]
      refine .inl ?_
      have hob' := obs_at hob hopre
      rw [Nat.zero_add] at hob'
      refine hob' (putAll vals pre 0 a0) w _ vals (facts_of fun x hx => ?_) (needs_of fun j hj => ?_) (fun hsp => needs_of fun j hj => ?_) ?_ ?_
      · cases x with
        | tmp t =>
          have hx' := List.all_eq_true.1 hokm.2 _ hx
          simp only [] at hx'
          show (match prodOf t pre 0 with | some j => (putAll vals pre 0 a0).eval (.tmp t) = vals j | none => (putAll vals pre 0 a0).eval (.tmp t) = a0.eval (.tmp t))
          cases hp : prodOf t pre 0 with
          | none => exact eval_none vals t pre 0 a0 hp
          | some j =>
            rw [hp] at hx'
            simp only [] at hx'
            have hj : j < pre.length ∧ ∃ o', pre[j]? = some o' ∧ o'.dst = some t := by
              have : ∀ (l : List Oper) (k j : Nat), prodOf t l k = some j → k ≤ j ∧ ∃ o', l[j - k]? = some o' ∧ o'.dst = some t := by
                intro l
                induction l with
                | nil => intro k j h; cases h
                | cons q l ihl =>
                  intro k j h
                  unfold prodOf at h
                  have rec_ : prodOf t l (k + 1) = some j → k ≤ j ∧ ∃ o', (q :: l)[j - k]? = some o' ∧ o'.dst = some t := fun h => by
                    obtain ⟨h1, o', h2, h3⟩ := ihl (k + 1) j h
                    refine ⟨by omega, o', ?_, h3⟩
                    rw [show j - k = (j - (k + 1)) + 1 by omega]
                    simpa using h2
                  cases hd : q.dst with
                  | none => rw [hd] at h; exact rec_ h
                  | some d =>
                    rw [hd] at h
                    simp only [] at h
                    by_cases hb : Nat.beq d t = true
                    · rw [if_pos hb] at h
                      injection h with h
                      subst h
                      exact ⟨Nat.le_refl _, q, by simp, by rw [hd, Nat.eq_of_beq_eq_true hb]⟩
                    · rw [if_neg hb] at h; exact rec_ h
              obtain ⟨_, o', h2, h3⟩ := this pre 0 j hp
              rw [Nat.sub_zero] at h2
              exact ⟨(List.getElem?_eq_some_iff.1 h2).1, o', h2, h3⟩
            obtain ⟨_, o', ho', hdst⟩ := hj
            exact eval_some vals t pre 0 j a0 hok2 hp (hin o' (List.mem_of_getElem? ho') t hdst)
        | _ => trivial
      · have hjm := Nat.blt_eq.mp (List.all_eq_true.1 hokm.1.2 j hj)
        exact hS j (by omega) (hallb j hj)
      · have hjm := Nat.blt_eq.mp (List.all_eq_true.1 hokm.1.2 j hj)
        obtain rfl : i = sp := Nat.eq_of_beq_eq_true hsp
        exact hT (by rw [getD_two hisz false true]; exact hun) j (by omega) (hallb j hj)
      · by_cases hsp : Nat.beq i sp = true
        · rw [if_pos hsp]
          refine hI.grown0 ?_
          obtain rfl : i = sp := Nat.eq_of_beq_eq_true hsp
          rw [getD_two hisz false true]
          exact hun
        · rw [if_neg hsp]
          exact hI.grown
      · intro v w' hg hSv hTv
        refine ih _ _ _ ?_ (by omega)
        refine ⟨by simp [hlsz], ?_, ⟨fun n => if n = 0 + i then v else vals n, putAll_upd vals v pre 0 i o a0 hok2 hopre, ?_, ?_⟩, ?_, ?_⟩
        · intro k ok' hk hkl j hj
          rw [set_getD hisz] at hkl ⊢
          by_cases hji : j = i
          · rw [if_pos hji]
          · rw [if_neg hji]
            by_cases hki : k = i
            · subst hki
              rw [ho] at hk
              injection hk with hk
              subst hk
              exact hallb j hj
            · rw [if_neg hki] at hkl
              exact hI.down k ok' hk hkl j hj
        · intro j hj hjl
          rw [set_getD hisz] at hjl
          simp only [Nat.zero_add]
          have hdeps : ∀ k, (k = i ∨ listed.getD k false = true) → k < pre.length → depsOf pre k (fun n => if n = i then v else vals n) = depsOf pre k vals := by
            intro k hk hkl
            unfold depsOf
            rw [List.getElem?_eq_getElem hkl]
            simp only []
            refine List.map_congr_left fun m hm => ?_
            have hne : m ≠ i := by
              rintro rfl
              have hkk : (pre)[k]? = some pre[k] := List.getElem?_eq_getElem hkl
              have hlm : listed.getD m false = true := by
                rcases hk with rfl | hk
                · have : pre[k] = o := by rw [hkk] at ho; exact Option.some.inj ho
                  rw [this] at hm
                  exact hallb _ hm
                · exact hI.down k _ hkk hk m hm
              rw [getD_two hisz false true, hun] at hlm
              cases hlm
            rw [if_neg hne]
          by_cases hji : j = i
          · subst hji
            have hdo : depsOf pre j vals = (bound o).map vals := by unfold depsOf; rw [hopre]
            unfold Sat
            rw [hdeps j (.inl rfl) hj, hdo]
            show S j (if j = j then v else vals j) _ _
            rw [if_pos rfl]
            exact hSv
          · rw [if_neg hji] at hjl
            have hstj := stays_at hst hj
            rw [Nat.zero_add] at hstj
            unfold Sat
            rw [hdeps j (.inr hjl) hj]
            show S j (if j = i then v else vals j) _ _
            rw [if_neg hji]
            refine hstj _ _ _ _ hI.grown.size ?_ (hS j hj hjl)
            by_cases hjs : Nat.beq j sp = true
            · rw [if_pos hjs]
              by_cases his : Nat.beq i sp = true
              · exact absurd ((Nat.eq_of_beq_eq_true hjs).trans (Nat.eq_of_beq_eq_true his).symm) hji
              · rw [if_neg his] at hg; exact hg
            · rw [if_neg hjs]
              by_cases his : Nat.beq i sp = true
              · rw [if_pos his] at hg; exact hg
              · rw [if_neg his] at hg; exact keep_weak hg
        · intro hspf j hj hjl
          rw [set_getD hisz] at hspf hjl
          by_cases hsi : sp = i
          · rw [if_pos hsi] at hspf; cases hspf
          · rw [if_neg hsi] at hspf
            have hnb : ¬ Nat.beq i sp = true := fun h => hsi (Nat.eq_of_beq_eq_true h).symm
            rw [if_neg hnb] at hg hTv
            have hdeps : ∀ k, (k = i ∨ listed.getD k false = true) → k < pre.length → depsOf pre k (fun n => if n = 0 + i then v else vals n) = depsOf pre k vals := by
              intro k hk hkl
              unfold depsOf
              rw [List.getElem?_eq_getElem hkl]
              simp only []
              refine List.map_congr_left fun m hm => ?_
              have hne : m ≠ 0 + i := by
                rw [Nat.zero_add]
                rintro rfl
                have hkk : (pre)[k]? = some pre[k] := List.getElem?_eq_getElem hkl
                have hlm : listed.getD m false = true := by
                  rcases hk with rfl | hk
                  · have : pre[k] = o := by rw [hkk] at ho; exact Option.some.inj ho
                    rw [this] at hm
                    exact hallb _ hm
                  · exact hI.down k _ hkk hk m hm
                rw [getD_two hisz false true, hun] at hlm
                cases hlm
              rw [if_neg hne]
            unfold Sat
            by_cases hji : j = i
            · subst hji
              have hdo : depsOf pre j vals = (bound o).map vals := by unfold depsOf; rw [hopre]
              rw [hdeps j (.inl rfl) hj, hdo]
              show T j (if j = 0 + j then v else vals j) _ _
              rw [if_pos (by omega)]
              exact hTv
            · rw [if_neg hji] at hjl
              rw [hdeps j (.inr hjl) hj]
              show T j (if j = 0 + i then v else vals j) _ _
              rw [if_neg (by omega)]
              exact hstT _ _ _ _ _ hg (hT hspf j hj hjl)
        · refine hI.grown.trans ?_
          by_cases his : Nat.beq i sp = true
          · rw [if_pos his] at hg; exact hg
          · rw [if_neg his] at hg; exact keep_weak hg
        · intro hspf
          rw [set_getD hisz] at hspf
          by_cases hsi : sp = i
          · rw [if_pos hsi] at hspf; cases hspf
          · rw [if_neg hsi] at hspf
            refine (hI.grown0 hspf).trans ?_
            rw [if_neg (fun h => hsi (Nat.eq_of_beq_eq_true h).symm)] at hg
            exact hg
theorem wp_region {l : List Oper} {id : Nat} (S T : Nat → Value → List Value → World → Prop) {w0 : World} (row : Nat → Obj → Prop) (sp : Nat) {a0 : Act} {Q : Exit → Act → World → Prop} (hm : P.follows .mixedOrders = true)
    (hok : okZ l = true) (hin : (l.all fun o => match o.dst with | some d => Nat.blt d a0.tmps.size | none => true) = true)
    (hob : Obs P l S T w0 row sp a0 Q 0 l) (hst : StaysAll S w0 row sp 0 l.length) (hstT : ∀ k v ds w w', Keeps allK w w' → T k v ds w → T k v ds w')
    (hend : ∀ vals w (G : Prop), Keeps row w0 w → Said l S vals w 0 l.length → (wpList P l.toArray Q [] (putAll vals l 0 a0) w → G) → G) :
    (Code.region id l.toArray true).wp P Q a0 w0 := by
  have hin' : ∀ o ∈ l, ∀ d, o.dst = some d → d < a0.tmps.size := by
    intro o ho d hd
    have := List.all_eq_true.1 hin o ho
    rw [hd] at this
    exact Nat.blt_eq.mp this
  refine wp_region_any hm (wpAny_specZ hok hin' hob hst hstT (fun vals w h1 h2 => hend vals w _ h1 h2 fun h => h) _ _ _ _ ⟨by simp, ?_, ?_, ⟨rfl, rfl, rfl, Nat.le_refl _, fun _ _ h _ => h⟩, fun _ => ⟨rfl, rfl, rfl, Nat.le_refl _, fun _ _ h _ => h⟩⟩ ?_)
  · intro i o _ h
    exfalso
    by_cases hi : i < l.length
    · simp [hi] at h
    · simp [hi] at h
  · obtain ⟨vals, hv⟩ := putAll_start a0 l 0 hin'
    have key : ∀ j, (Array.replicate l.toArray.size false).getD j false = true → False := fun j h => by
      by_cases hj : j < l.length
      · simp [hj] at h
      · simp [hj] at h
    exact ⟨vals, hv, fun j _ h => absurd h (fun h => key j h), fun _ j _ h => absurd h (fun h => key j h)⟩
  · simp
end
end Rz
end Go.Proofs.YtghdjkpndhcplaaDoor
