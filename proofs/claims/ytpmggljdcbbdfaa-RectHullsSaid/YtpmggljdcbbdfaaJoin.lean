/- A list of operations walked in two parts, whose first part's ways meet again. -/
import Derived.Test.YtpmggljdcbbdfaaHulls
namespace Go.Proofs.Ytpmggljdcbbdfaa
open Go.RowKit rm

theorem upon_mono2 {P : Program} {o : Oper} {a : Act} {K K' : Act → World → Prop} {Q Q' : Exit → Act → World → Prop} {r : Result Next} (hK : ∀ a w, K a w → K' a w) (hQ : ∀ e a w, e ≠ Exit.normal → Q e a w → Q' e a w)
    (hh : o.upon P a K Q r) : o.upon P a K' Q' r := by
  have hL : LetsOut Q → LetsOut Q' := fun ⟨a, w, h⟩ => ⟨a, w, hQ _ _ _ (by simp) h⟩
  cases r with
  | ok n w' =>
    cases n <;> simp only [Oper.upon] at hh ⊢ <;>
      first
        | exact hK _ _ hh
        | exact Calls.mono hh (fun e w'' he => by cases e <;> first | exact hK _ _ he | exact hQ _ _ _ (by simp) he | exact hL he)
        | exact Rows.mono hh (fun _ _ he => hK _ _ he)
  | halt x w' => cases x <;> simp only [Oper.upon] at hh ⊢ <;> first | exact hQ _ _ _ (by simp) hh | exact hh

/-- up to here R; at every other way out, Q -/
def Till (R : Act → World → Prop) (Q : Exit → Act → World → Prop) : Exit → Act → World → Prop
  | .normal, a, w => R a w
  | e, a, w => Q e a w
theorem till_else {R : Act → World → Prop} {Q : Exit → Act → World → Prop} (e : Exit) (a : Act) (w : World) (h : e ≠ Exit.normal) (ht : Till R Q e a w) : Q e a w := by
  cases e <;> first | exact absurd rfl h | exact ht

theorem wpList_mid {P : Program} {ops : Array Oper} {Q : Exit → Act → World → Prop} (R : Act → World → Prop) : ∀ (n : Nat) (l : List Oper) (a : Act) (w : World),
    wpList P ops (Till R Q) (l.take n) a w → (∀ a w, R a w → wpList P ops Q (l.drop n) a w) → wpList P ops Q l a w
  | 0, l, a, w, h1, h2 => h2 _ _ h1
  | n + 1, [], a, w, h1, h2 => h2 _ _ h1
  | n + 1, o :: rest, a, w, h1, h2 => by
    have ih : ∀ a w, wpList P ops (Till R Q) (rest.take n) a w → wpList P ops Q rest a w := fun a w h => wpList_mid R n rest a w h h2
    simp only [List.take_succ_cons] at h1
    unfold wpList at h1 ⊢
    split at h1
    · rename_i hw
      rw [if_pos hw]
      rcases h1 with h1 | ⟨h1, a', w', h3⟩
      · exact .inl (upon_mono2 ih till_else h1)
      · exact .inr ⟨h1, a', w', till_else _ _ _ (by simp) h3⟩
    · rename_i hw
      rw [if_neg hw]
      exact ih _ _ h1

/-- slots laid one behind the other -/
def putL (a : Act) : List (Nat × Value) → Act
  | [] => a
  | (i, v) :: t => putL (a.put (some i) v) t
def zipF : List Nat → (Nat → Value) → List (Nat × Value)
  | [], _ => []
  | i :: t, v => (i, v 0) :: zipF t (fun k => v (k + 1))
theorem zipF_of : ∀ (is : List Nat) (vs : List Value), vs.length = is.length → ∃ v, is.zip vs = zipF is v
  | [], [], _ => ⟨fun _ => undef, rfl⟩
  | i :: is, x :: vs, h => by
    obtain ⟨v, hv⟩ := zipF_of is vs (by simpa using h)
    exact ⟨fun k => match k with | 0 => x | k + 1 => v k, by rw [List.zip_cons_cons, hv]; rfl⟩
/-- the ways through the first n operations meet again: some slots hold whatever they hold, others what is told -/
theorem wpList_join {P : Program} {ops : Array Oper} {Q : Exit → Act → World → Prop} (n : Nat) (is : List Nat) (t : List (Nat × Value)) {l : List Oper} {a : Act} {w : World}
    (h1 : wpList P ops (Till (fun a' w' => w' = w ∧ ∃ vs : List Value, vs.length = is.length ∧ a' = putL (putL a (is.zip vs)) t) Q) (l.take n) a w)
    (h2 : ∀ v : Nat → Value, wpList P ops Q (l.drop n) (putL (putL a (zipF is v)) t) w) : wpList P ops Q l a w :=
  wpList_mid _ n l a w h1 (fun a' w' ⟨hw, vs, hl, ha⟩ => by
    obtain ⟨v, hv⟩ := zipF_of is vs hl
    subst hw ha
    rw [hv]
    exact h2 v)
end Go.Proofs.Ytpmggljdcbbdfaa
