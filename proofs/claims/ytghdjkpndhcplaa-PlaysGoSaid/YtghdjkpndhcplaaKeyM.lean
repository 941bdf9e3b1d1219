/- Stands as keys of a map: what the map says of those met so far. -/
import Derived.Test.YtghdjkpndhcplaaPlyR
import Derived.Test.YtghdjkpndhcplaaHeap
import Derived.Maps.OwnSet
import Derived.DeepKeys4
namespace Go.Proofs.Ytghdjkpndhcplaa
open Go.RowKit Go.Maps
namespace W

theorem stand_key : Try.prog.keyType 50 = true := by kernel_rfl
theorem stand_cells : Try.prog.cellsOf 50 = 2 := by kernel_rfl
theorem int_cells : Try.prog.cellsOf 3 = 1 := by kernel_rfl
theorem stand_row : (50 : TypeId) < Try.prog.types.size := of_decide_eq_true (by kernel_rfl)
theorem stand_wide : (match Try.prog.underlying 50 with | some (.array _ _) | some (.struct _) => true | _ => false) = true := by rw [Try.underlying50]
theorem stand_law : Keyed Try.prog 50 := Keyed.of_law (deep_law_laid (by kernel_rfl) (m := 2) (by omega) stand_row (by kernel_rfl) stand_wide)
theorem wf_small {a : Nat} (h : a < 1000) : (Lit.int .i64 (a : Int)).wf = true := by
  simp [Lit.wf, IntKind.min, IntKind.max, IntKind.signed, IntKind.bits]
  omega
abbrev standV (a b : Nat) : Value := .agg #[.int .i64 (a : Int), .int .i64 (b : Int)]
set_option maxRecDepth 100000 in
theorem key_some (a b : Nat) (ha : a < 1000) (hb : b < 1000) : ∃ l, keyOf Try.prog 50 (standV a b) = some l := by
  unfold keyOf
  rw [Try.underlying50]
  simp only [stand_key]
  have hf : (standV a b).formed Try.prog 50 = true := by simp [Value.formed, Try.underlying50, stand_cells]
  obtain ⟨d, hd⟩ : ∃ d, Try.prog.types.size = d + 1 := ⟨Try.prog.types.size - 1, by have : 0 < Try.prog.types.size := Nat.lt_of_le_of_lt (Nat.zero_le _) stand_row; omega⟩
  rw [hf, hd]
  simp [Program.keyLits, Try.underlying50, Try.underlying3, stand_cells, int_cells, Value.cells, wf_small ha, wf_small hb]
/-- What a stand reads as. -/
noncomputable def kl (a b : Nat) : Lit := (keyOf Try.prog 50 (standV a b)).getD (.bool false)
theorem key_mk {a b : Nat} (ha : a < 1000) (hb : b < 1000) : keyOf Try.prog 50 (standV a b) = some (kl a b) := by
  obtain ⟨l, hl⟩ := key_some a b ha hb
  unfold kl
  rw [hl]
  rfl
theorem kl_inj {a b c d : Nat} (ha : a < 1000) (hb : b < 1000) (hc : c < 1000) (hd : d < 1000) (h : kl a b = kl c d) : a = c ∧ b = d := by
  have h1 := stand_law.inj (key_mk ha hb) (h ▸ key_mk hc hd)
  unfold standV at h1
  simp only [Value.agg.injEq, Array.mk.injEq, List.cons.injEq, Value.int.injEq, true_and, and_true] at h1
  omega
theorem kl_key {a b : Nat} (ha : a < 1000) (hb : b < 1000) : WideAt.IsKeyLit (kl a b) := stand_law.key (key_mk ha hb)
abbrev i64D (i : Int) : DataW Nat := .lit (.int .i64 i)
/-- The map says of each stand of l its place. -/
structure Met (D : DataW Nat) (l : List (Nat × Nat)) : Prop where
  map : IsMap D
  has : ∀ a b, a < 1000 → b < 1000 → Maps.has D (kl a b) = decide ((a, b) ∈ l)
  place : ∀ (i a b : Nat), l[i]? = some (a, b) → a < 1000 → b < 1000 → D.atKey (kl a b) (i64D 0) = i64D (i : Int)
theorem Met.start : Met (.map []) [] := ⟨isMap_empty, fun _ _ _ _ => rfl, fun _ _ _ h => (by simp at h)⟩
theorem Met.next {D : DataW Nat} {l : List (Nat × Nat)} (h : Met D l) {a b : Nat} (ha : a < 1000) (hb : b < 1000) (hn : (a, b) ∉ l) : Met (D.put (kl a b) (i64D (l.length : Int))) (l ++ [(a, b)]) where
  map := h.map.put _ _
  has c d hc hd := by
    by_cases e : (c, d) = (a, b)
    · rw [Prod.mk.injEq] at e
      obtain ⟨rfl, rfl⟩ := e
      rw [has_put_same h.map (kl_key ha hb)]
      simp
    · rw [has_put_other (fun e2 => e (by obtain ⟨h1, h2⟩ := kl_inj hc hd ha hb e2; rw [h1, h2])), h.has c d hc hd, decide_eq_decide, List.mem_append, List.mem_singleton]
      exact ⟨.inl, fun h => h.resolve_right e⟩
  place i c d hi hc hd := by
    rcases Nat.lt_or_ge i l.length with hl | hl
    · rw [List.getElem?_append_left hl] at hi
      have e : ¬ (c, d) = (a, b) := fun e => hn (e ▸ List.mem_of_getElem? hi)
      rw [atKey_put_other (fun e2 => e (by obtain ⟨h1, h2⟩ := kl_inj hc hd ha hb e2; rw [h1, h2]))]
      exact h.place i c d hi hc hd
    · rw [List.getElem?_append_right hl] at hi
      have hi0 : i - l.length = 0 := by
        have := (List.getElem?_eq_some_iff.1 hi).1
        simp at this
        omega
      rw [hi0] at hi
      have e : (a, b) = (c, d) := by simpa using hi
      rw [Prod.mk.injEq] at e
      obtain ⟨rfl, rfl⟩ := e
      rw [atKey_put_same h.map (kl_key ha hb)]
      congr 3
      omega
theorem zero_int (w : World) : (zeroValue 3).run Try.prog w = .ok (.int .i64 0) w := by kernel_rfl
end W
end Go.Proofs.Ytghdjkpndhcplaa
