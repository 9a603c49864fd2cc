/- What is wrong with a module, on lists: when nothing is. -/
import Derived.Test.YtoknolljfeaapaaDoorCkFn
namespace Go.Proofs.YtoknolljfeaapaaDoor
theorem ck.lim_of_err {m : md.Mod} (h : md.err m = 0) : ck.Lim m ∧ 1 ≤ m.funcs.length ∧ m.funcs.length ≤ 16 := by
  unfold md.err at h
  by_cases hr : md.right m = true
  · unfold md.right at hr
    simp only [Bool.and_eq_true, decide_eq_true_eq, List.all_eq_true] at hr
    refine ⟨fun g hg => ?_, hr.1.2.1, hr.1.2.2⟩
    have := hr.2 g hg
    unfold md.rightFn at this
    simp only [Bool.and_eq_true, decide_eq_true_eq] at this
    omega
  · rw [if_neg hr] at h
    cases h
theorem ck.flaw_ne {f : Nat} {k : Int} : (⟨f, k, 130⟩ : ck.Flaw) ≠ ck.fine := fun e => by
  injection e with _ _ e
  omega
theorem ck.flaw_ne' {f k : Int} : (⟨f, k, 130⟩ : ck.Flaw) ≠ ck.fine := fun e => by
  injection e with _ _ e
  omega
theorem ck.checkFn_fine {m : md.Mod} {f : Nat} : ck.checkFn m f = ck.fine ↔ ck.firstBad m f 0 (ck.fnAt m f).code = none ∧ (ck.heights m f).isSome = true := by
  unfold ck.checkFn
  cases hb : ck.firstBad m f 0 (ck.fnAt m f).code with
  | some k => exact ⟨fun h => absurd h ck.flaw_ne, fun h => by cases h.1⟩
  | none =>
    by_cases hs : (ck.heights m f).isSome = true
    · simp only [hs, if_true, and_self]
    · simp only [hs]
      exact ⟨fun h => absurd h ck.flaw_ne, fun h => by cases h.2⟩
theorem ck.checkFrom_fine {m : md.Mod} : ∀ (n f : Nat), ck.checkFrom m n f = ck.fine ↔ ∀ j, f ≤ j → j < f + n → ck.checkFn m j = ck.fine
  | 0, f => ⟨fun _ j h1 h2 => by omega, fun _ => rfl⟩
  | n + 1, f => by
    unfold ck.checkFrom
    by_cases h : ck.checkFn m f = ck.fine
    · rw [if_pos h, ck.checkFrom_fine n (f + 1)]
      constructor
      · intro g j h1 h2
        by_cases e : j = f
        · subst e; exact h
        · exact g j (by omega) (by omega)
      · intro g j h1 h2
        exact g j (by omega) (by omega)
    · rw [if_neg h]
      exact ⟨fun g => absurd g h, fun g => absurd (g f (Nat.le_refl _) (by omega)) h⟩
theorem ck.check_fine {m : md.Mod} : ck.check m = ck.fine ↔ md.err m = 0 ∧ (ck.fnAt m 0).params = 3 ∧ (ck.fnAt m 0).results = 0 ∧ ∀ f, f < m.funcs.length → ck.checkFn m f = ck.fine := by
  unfold ck.check
  by_cases h1 : md.err m = 0
  · rw [if_neg (by omega)]
    by_cases h2 : (ck.fnAt m 0).params ≠ 3 ∨ (ck.fnAt m 0).results ≠ 0
    · rw [if_pos h2]
      exact ⟨(fun h => by cases h), (fun h => by omega)⟩
    · rw [if_neg h2, ck.checkFrom_fine]
      constructor
      · intro g
        exact ⟨h1, by omega, by omega, fun f hf => g f (Nat.zero_le _) (by omega)⟩
      · intro g j _ h2
        exact g.2.2.2 j (by omega)
  · rw [if_pos h1]
    exact ⟨(fun h => by cases h), (fun h => absurd h.1 h1)⟩
/-- of a module without a flaw -/
theorem ck.fine_pt {m : md.Mod} (h : ck.check m = ck.fine) : ck.Lim m ∧ ∀ f, f < m.funcs.length → ck.Pt m f ∧ ∃ hs, ck.heights m f = some hs := by
  obtain ⟨h1, -, -, h4⟩ := ck.check_fine.1 h
  have hl := (ck.lim_of_err h1).1
  refine ⟨hl, fun f hf => ?_⟩
  obtain ⟨g1, g2⟩ := ck.checkFn_fine.1 (h4 f hf)
  exact ⟨⟨hl.pt, hf, ck.firstBad_none _ 0 g1⟩, Option.isSome_iff_exists.1 g2⟩
end Go.Proofs.YtoknolljfeaapaaDoor
