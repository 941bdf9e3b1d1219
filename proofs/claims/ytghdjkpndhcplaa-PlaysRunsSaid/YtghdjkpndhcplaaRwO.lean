/- A list of numbers of the call's own that its owner writes over. -/
import Derived.Test.YtghdjkpndhcplaaShape
import Derived.Test.YtghdjkpndhcplaaGrowR
namespace Go.Proofs.Ytghdjkpndhcplaa
open Go.RowKit
namespace W
/-- One number is appended. -/
theorem Rw.one {lo hi N : Nat} {w : World} {v : Value} {n q : Nat} {z : Int} (h : Rw lo hi N w v n) (hn : n ≤ 17592186043904) (hN : N ≤ w.heap.size) (hlo : lo ≤ w.heap.size) (ty : TypeId) (hb : Box w q 3 #[.int .i64 z]) :
    ∃ v' w', (Builtin.append_ #[22, 22] ty #[v, .slice (some ⟨q, 0, none⟩) 1 1]).run Try.prog w = .ok v' w' ∧ Rw lo hi N w' v' (n + 1) ∧ Soft w w' ∧ Rk.Keeps (KF lo hi N 3) w w' := by
  obtain ⟨⟨xs, ho⟩, hk⟩ := h
  obtain ⟨i, hi', hz, hs, hby⟩ := elInt.info
  have hnews : ∀ j u, [Value.int .i64 z][j]? = some u → w.cell? ((⟨q, 0, none⟩ : Addr).add j) = some u := fun j u hu => by
    rw [addr_add, Nat.zero_add]
    exact hb.cell j u (by simpa using hu)
  have h1 : ∀ u ∈ [Value.int .i64 z], u.oneCell' = true := by
    intro u hu
    simp at hu
    subst hu
    rfl
  have fresh : ∀ v' w', w'.ownsRow w.heap.size 3 1 v' (n + 1) (xs ++ [Value.int .i64 z]) → w.grownBy w' none → Rw lo hi N w' v' (n + 1) ∧ Soft w w' ∧ Rk.Keeps (KF lo hi N 3) w w' := fun v' w' h2 h3 =>
    ⟨⟨⟨_, own_more h2 hlo⟩, fun k hk => .inr (Nat.le_trans hN (own_lt h2 k hk).1)⟩, soft_all (Rk.keep_of h3), Rk.keep_weak (Rk.keep_of h3)⟩
  have ho' := ho
  rcases ho.2 with ⟨rfl, rfl⟩ | ⟨g, cap, cur, rfl, hg, hh, h3, h4, h5, h6⟩
  · obtain ⟨v', w', hr, h2, h3, h4, h5⟩ := run_append_own_at (P := Try.prog) w w.heap.size 22 ty 3 i (.int .i64 0) 1 8 elInt.und hi' hz hs hby rfl (by decide) (.slice none 0 0) 0 [] (World.ownsRow_nil _ _ _ _) ⟨q, 0, none⟩ 1 1 [.int .i64 z] rfl hnews h1 (by decide) (by decide) (Nat.le_refl _)
    have hx : xs = [] := List.eq_nil_of_length_eq_zero (by simpa using ho.1)
    subst hx
    exact ⟨v', w', hr, fresh v' w' (by simpa using h2) h3⟩
  · by_cases hroom : n + 1 ≤ cap
    · obtain ⟨w', hr, h7, h8⟩ := run_append_own_spare (P := Try.prog) w lo 22 ty 3 i 1 elInt.und hi' hs g n cap xs ho ⟨q, 0, none⟩ 1 1 [.int .i64 z] rfl hnews h1 hroom
      refine ⟨_, w', hr, ⟨⟨_, h7⟩, hk⟩, ?_, h8.os, h8.tape, h8.output, h8.size, ?_⟩
      · intro k cs hkk
        by_cases e : k = g
        · subst e
          rcases h7.2 with ⟨h9, _⟩ | ⟨g', cap', cur', hv, _, hh', _, _, hs', _⟩
          · cases h9
          · injection hv with e1 e2 e3
            injection e1 with e1
            injection e1 with e1
            subst e1
            rw [hh] at hkk
            injection hkk with hkk
            injection hkk with hkk
            subst hkk
            exact ⟨cur', by omega, hh'⟩
        · exact ⟨cs, rfl, (h8.block k (Array.getElem?_eq_some_iff.1 hkk).1 (by simpa using e)).trans hkk⟩
      · intro k o hko hK
        have hne : k ≠ g := by
          rintro rfl
          rw [hh] at hko
          injection hko with hko
          rcases hK with hK | hK
          · exact hK _ _ hko.symm
          · have := hk k rfl
            omega
        exact (h8.block k (Array.getElem?_eq_some_iff.1 hko).1 (by simpa using hne)).trans hko
    · have holds : ∀ j u, xs[j]? = some u → w.cell? ((⟨g, 0, none⟩ : Addr).add j) = some u := fun j u hu => by
        obtain ⟨ao, c', e, hc⟩ := own_at ho
        injection e with e1 e2 e3
        subst e1
        rcases hc with rfl | ⟨b', e4, _, _, hc⟩
        · simp at hu
        · injection e4 with e4
          injection e4 with e4
          subst e4
          rw [addr_add]
          exact hc j u hu
      obtain ⟨v', w', hr, h2, h3'⟩ := run_append_arg_grows (P := Try.prog) w 22 ty 3 i (.int .i64 0) 1 8 elInt.und hi' hz hs hby rfl (by decide) ⟨g, 0, none⟩ n cap xs (by simpa using ho.1) holds ⟨q, 0, none⟩ 1 1 [.int .i64 z] rfl hnews (by omega) (by unfold maxLen; omega) (by omega)
      exact ⟨v', w', hr, fresh v' w' h2 h3'⟩

theorem Rw.of_own {lo N : Nat} {w : World} {v : Value} {xs : List Int} (h : OwnI w lo v xs) : Rw lo N N w v xs.length := ⟨⟨_, h⟩, fun k _ => Nat.lt_or_ge k N⟩
theorem kf_below {w w' : World} {lo hi N : Nat} {t : TypeId} (h : Rk.Keeps (KF lo hi N t) w w') (hs : lo ≤ w.heap.size) : Below lo w w' := ⟨h.os, h.tape, h.output, h.size, fun k hk => by
  obtain ⟨o, ho⟩ : ∃ o, w.heap[k]? = some o := ⟨_, Array.getElem?_eq_getElem (Nat.lt_of_lt_of_le hk hs)⟩
  rw [ho]
  exact h.block k o ho (.inr (.inl hk))⟩
theorem kf_box {w w' : World} {lo hi N b : Nat} {t e : TypeId} {cs : Array Value} (h : Rk.Keeps (KF lo hi N t) w w') (hb : Box w b e cs) (hne : e ≠ t) : Box w' b e cs := h.block b _ hb (.inl fun cs' fr he => by injection he with _ h2; exact hne h2)
theorem kf_refl (w : World) (lo hi N : Nat) (t : TypeId) : Rk.Keeps (KF lo hi N t) w w := Rk.Keeps.refl _ _
theorem kf_grown {w w' : World} {lo hi N : Nat} {t : TypeId} (h : w.grownBy w' none) : Rk.Keeps (KF lo hi N t) w w' := Rk.keep_weak (Rk.keep_of h)
/-- append at the operation, of one number, behind a list that its owner may write over. -/
theorem wpl_one {w : World} {ops : Array Oper} {rest : List Oper} {o : Oper} {a : Act} {Q : Exit → Act → World → Prop} (hgd : o.guard = none) (s x : Operand)
    (ho : o.op = .call { callee := .builtin .append, args := #[s, x], argTypes := #[22, 22] }) {lo N n q : Nat} {v : Value} {z : Int} (hs : a.eval s = v) (h : Rw lo N N w v n) (hx : a.eval x = .slice (some ⟨q, 0, none⟩) 1 1) (hb : Box w q 3 #[.int .i64 z]) (hn : n ≤ 17592186043904) (hN : N ≤ w.heap.size) (hlo : lo ≤ w.heap.size)
    (hK : ∀ v' w', Rw lo N N w' v' (n + 1) → Soft w w' → Rk.Keeps (KF lo N N 3) w w' → wpList Try.prog ops Q rest (a.put o.dst v') w') : wpList Try.prog ops Q (o :: rest) a w := by
  obtain ⟨v', w', hrun, h2, h3, h4⟩ := h.one hn hN hlo o.type hb
  exact wpList_plain hgd fun _ hk => op_append ho hs hx hrun (hk _ _ (hK v' w' h2 h3 h4))
end W
end Go.Proofs.Ytghdjkpndhcplaa
