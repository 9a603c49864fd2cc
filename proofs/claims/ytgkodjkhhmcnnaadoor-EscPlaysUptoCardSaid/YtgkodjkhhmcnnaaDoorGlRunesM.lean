/- What bytes are read as, one rune at a time; no Go. -/
import Derived.Test.YtgkodjkhhmcnnaaDoorGlWholeM
namespace Go.Proofs.YtgkodjkhhmcnnaaDoor.gl
open Go.Lib

theorem b_cons_zero (x : UInt8) (l : List UInt8) : b (x :: l) 0 = x.toNat := rfl
theorem b_cons_succ (x : UInt8) (l : List UInt8) (i : Nat) : b (x :: l) (i + 1) = b l i := by simp [b, List.getD]
/-- a byte that goes on a rune -/
def cont (x : UInt8) : Prop := 128 ≤ x.toNat ∧ x.toNat ≤ 191
theorem runes_full {l : List UInt8} (h : full l = true) : runes l = ((dec l).1 : Int) :: runes (l.drop (dec l).2) := by
  unfold runes
  rw [read_go h]
  rfl
theorem runes_nil : runes [] = [] := rfl
theorem cont_full {x : UInt8} (l : List UInt8) (h : cont x) : full (x :: l) = true := by
  obtain ⟨h1, h2⟩ := h
  unfold full
  rw [if_neg (by simp), b_cons_zero, if_pos]
  unfold firstT
  rw [if_neg (by omega), if_pos (by omega)]
  simp
theorem cont_dec {x : UInt8} (l : List UInt8) (h : cont x) : dec (x :: l) = (65533, 1) := by
  obtain ⟨h1, h2⟩ := h
  unfold dec
  rw [if_neg (by simp), b_cons_zero]
  unfold decodeN
  rw [if_neg (by omega), if_neg (by omega), if_neg (by omega), if_neg (by omega)]
theorem runes_cont : ∀ l : List UInt8, (∀ x ∈ l, cont x) → runes l = List.replicate l.length 65533
  | [], _ => rfl
  | x :: l, h => by
    have hx := h x (by simp)
    rw [runes_full (cont_full l hx), cont_dec l hx]
    show (65533 : Int) :: runes l = _
    rw [runes_cont l (fun y hy => h y (by simp [hy]))]
    rfl
theorem firstT_class (x : Nat) (h : x < 256) : (x < 128 ∧ firstT x = 240) ∨ ((128 ≤ x ∧ x < 194 ∨ 245 ≤ x) ∧ firstT x = 241) ∨ ((194 ≤ x ∧ x < 224) ∧ firstT x = 2) ∨ (x = 224 ∧ firstT x = 19) ∨ ((225 ≤ x ∧ x < 237 ∨ 238 ≤ x ∧ x < 240) ∧ firstT x = 3) ∨ (x = 237 ∧ firstT x = 35) ∨ (x = 240 ∧ firstT x = 52) ∨ ((241 ≤ x ∧ x < 244) ∧ firstT x = 4) ∨ (x = 244 ∧ firstT x = 68) := by
  unfold firstT
  repeat' split
  all_goals omega
/-- full's own tests, when it says no -/
theorem not_full_parts {l : List UInt8} (h : full l = false) (h0 : l ≠ []) : l.length < firstT (b l 0) % 8 ∧ (1 < l.length → accLo (firstT (b l 0) / 16) ≤ b l 1 ∧ b l 1 ≤ accHi (firstT (b l 0) / 16)) ∧ (2 < l.length → 128 ≤ b l 2 ∧ b l 2 ≤ 191) := by
  have hl : l.length ≠ 0 := fun h' => h0 (List.length_eq_zero_iff.1 h')
  unfold full at h
  rw [if_neg hl] at h
  split at h
  · simp at h
  · split at h
    · simp at h
    · split at h
      · simp at h
      · rename_i g1 g2 g3
        refine ⟨by omega, fun h1 => ?_, fun h2 => ?_⟩
        · constructor
          · exact Nat.le_of_not_lt fun h' => g2 ⟨h1, .inl h'⟩
          · exact Nat.le_of_not_lt fun h' => g2 ⟨h1, .inr h'⟩
        · constructor
          · exact Nat.le_of_not_lt fun h' => g3 ⟨h2, .inl h'⟩
          · exact Nat.le_of_not_lt fun h' => g3 ⟨h2, .inr h'⟩
/-- what may still become a rune: a first byte, and bytes that go it on; nothing of it is whole -/
theorem rest_cont {x : UInt8} {t : List UInt8} (h : full (x :: t) = false) : (∀ y ∈ t, cont y) ∧ whole (x :: t) = (0, 0) := by
  obtain ⟨h1, h2, h3⟩ := not_full_parts h (by simp)
  rw [b_cons_zero] at h1 h2
  have hl := not_full h
  have hlen : (x :: t).length = t.length + 1 := rfl
  rw [hlen] at h1 h2 h3 hl
  have hw : whole (x :: t) = wN (t.length + 1) x.toNat (b (x :: t) 1) (b (x :: t) 2) (b (x :: t) 3) := by unfold whole; rw [if_neg (by simp)]; rfl
  have hc := firstT_class x.toNat x.toNat_lt
  have hz : whole (x :: t) = (0, 0) := by
    rw [hw]
    unfold wN
    rcases hc with ⟨hx, e⟩ | ⟨hx, e⟩ | ⟨hx, e⟩ | ⟨hx, e⟩ | ⟨hx, e⟩ | ⟨hx, e⟩ | ⟨hx, e⟩ | ⟨hx, e⟩ | ⟨hx, e⟩ <;> rw [e] at h1 <;> simp only [Nat.reduceMod] at h1
    all_goals first
      | (exfalso; omega)
      | (rw [if_neg (by omega), if_neg (by omega), if_neg (by omega), if_neg (by omega)])
  refine ⟨?_, hz⟩
  have key : (1 < t.length + 1 → 128 ≤ b (x :: t) 1 ∧ b (x :: t) 1 ≤ 191) := fun h' => by
    have := h2 h'
    rcases hc with ⟨hx, e⟩ | ⟨hx, e⟩ | ⟨hx, e⟩ | ⟨hx, e⟩ | ⟨hx, e⟩ | ⟨hx, e⟩ | ⟨hx, e⟩ | ⟨hx, e⟩ | ⟨hx, e⟩ <;> rw [e] at this h1 <;> unfold accLo accHi at this <;> (repeat' split at this) <;> omega
  match t, hl, key, h3 with
  | [], _, _, _ => simp
  | [y], _, key, _ =>
    have := key (by simp)
    intro z hz'
    obtain rfl := List.mem_singleton.1 hz'
    exact this
  | [y, z], _, key, h3 =>
    have k1 := key (by simp)
    have k2 := h3 (by simp)
    intro u hu
    rcases List.mem_cons.1 hu with rfl | hu
    · exact k1
    · obtain rfl := List.mem_singleton.1 hu
      exact k2
  | _ :: _ :: _ :: _, hl, _, _ => simp at hl
theorem runes_go {l : List UInt8} (h : l ≠ []) : runes l = ((dec l).1 : Int) :: runes (l.drop (dec l).2) := by
  cases hf : full l with
  | true => exact runes_full hf
  | false =>
    match l, h with
    | x :: t, _ =>
      obtain ⟨h1, h2⟩ := rest_cont hf
      rw [whole_dec _ (by simp), h2]
      show _ = (65533 : Int) :: runes t
      rw [runes_cont t h1]
      unfold runes
      rw [read_stop hf]
      rfl
/-- .. by the document's words -/
theorem runes_whole {l : List UInt8} (h : l ≠ []) : runes l = if (whole l).1 = 0 then 65533 :: runes (l.drop 1) else ((whole l).2 : Int) :: runes (l.drop (whole l).1) := by
  rw [runes_go h, whole_dec l h]
  split <;> rfl
end Go.Proofs.YtgkodjkhhmcnnaaDoor.gl
