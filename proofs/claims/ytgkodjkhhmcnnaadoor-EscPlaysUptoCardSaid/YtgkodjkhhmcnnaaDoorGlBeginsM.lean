/- What may still become a rune, by the document's fills; no Go. -/
import Derived.Test.YtgkodjkhhmcnnaaDoorGlReadM
namespace Go.Proofs.YtgkodjkhhmcnnaaDoor.gl
open Go.Lib

/-- the document's fills -/
def fills : List (List UInt8) := [[128], [144], [160], [128, 128], [144, 128], [160, 128], [128, 128, 128], [144, 128, 128]]
theorem fills_len : fills.length = 8 := rfl
theorem fills_ne : ∀ f ∈ fills, f ≠ [] := by decide
theorem full_whole {l : List UInt8} (r : List UInt8) (h : full l = true) : whole (l ++ r) = whole l := by
  have h0 := full_ne h
  have hl : 0 < l.length := List.length_pos_iff.2 h0
  have hp := full_parts h
  have hb0 := b_append l r 0 hl
  unfold whole
  rw [if_neg (by rw [List.length_append]; omega), if_neg (by omega), hb0, List.length_append]
  exact wN_more _ _ _ _ _ _ _ _ _ (b_lt _ _) hl (by omega) (b_append l r 1) (b_append l r 2) (b_append l r 3) hp
/-- what is whole in parts is no beginning -/
theorem no_fill {l f : List UInt8} (h : full l = true) (h0 : (whole l).1 = 0) (hf : f ≠ []) : (whole (l ++ f)).1 ≠ (l ++ f).length := by
  rw [full_whole f h, h0, List.length_append]
  have := List.length_pos_iff.2 hf
  omega
theorem fill1 (x : UInt8) (n x1 x2 x3 : Nat) (h : (194 ≤ x.toNat ∧ x.toNat ≤ 223 ∧ 1 < n ∧ 128 ≤ x1 ∧ x1 ≤ 191)) : wN n x.toNat x1 x2 x3 = (2, x.toNat % 32 * 64 + x1 % 64) := by
  unfold wN
  rw [if_neg (by omega), if_pos (by omega)]
theorem fill2 (x : UInt8) (n x1 x2 x3 : Nat) (h : 224 ≤ x.toNat ∧ x.toNat ≤ 239) (h1 : 1 < n ∧ accLo (firstT x.toNat / 16) ≤ x1 ∧ x1 ≤ accHi (firstT x.toNat / 16)) (h2 : 2 < n ∧ 128 ≤ x2 ∧ x2 ≤ 191) : (wN n x.toNat x1 x2 x3).1 = 3 := by
  have hc := firstT_class x.toNat x.toNat_lt
  have hq : (if x.toNat = 224 then 160 else 128) ≤ x1 ∧ x1 ≤ (if x.toNat = 237 then 159 else 191) := by
    rcases hc with ⟨hx, e⟩ | ⟨hx, e⟩ | ⟨hx, e⟩ | ⟨hx, e⟩ | ⟨hx, e⟩ | ⟨hx, e⟩ | ⟨hx, e⟩ | ⟨hx, e⟩ | ⟨hx, e⟩ <;> rw [e] at h1 <;> unfold accLo accHi at h1 <;> simp at h1 <;> constructor <;> split <;> omega
  unfold wN
  rw [if_neg (by omega), if_neg (by omega), if_pos ⟨h, ⟨h1.1, hq⟩, h2⟩]
theorem fill3 (x : UInt8) (n x1 x2 x3 : Nat) (h : 240 ≤ x.toNat ∧ x.toNat ≤ 244) (h1 : 1 < n ∧ accLo (firstT x.toNat / 16) ≤ x1 ∧ x1 ≤ accHi (firstT x.toNat / 16)) (h2 : 2 < n ∧ 128 ≤ x2 ∧ x2 ≤ 191) (h3 : 3 < n ∧ 128 ≤ x3 ∧ x3 ≤ 191) : (wN n x.toNat x1 x2 x3).1 = 4 := by
  have hc := firstT_class x.toNat x.toNat_lt
  have hq : (if x.toNat = 240 then 144 else 128) ≤ x1 ∧ x1 ≤ (if x.toNat = 244 then 143 else 191) := by
    rcases hc with ⟨hx, e⟩ | ⟨hx, e⟩ | ⟨hx, e⟩ | ⟨hx, e⟩ | ⟨hx, e⟩ | ⟨hx, e⟩ | ⟨hx, e⟩ | ⟨hx, e⟩ | ⟨hx, e⟩ <;> rw [e] at h1 <;> unfold accLo accHi at h1 <;> simp at h1 <;> constructor <;> split <;> omega
  unfold wN
  rw [if_neg (by omega), if_neg (by omega), if_neg (by omega), if_pos ⟨h, ⟨h1.1, hq⟩, h2, h3⟩]
theorem whole_cons (x : UInt8) (t : List UInt8) : whole (x :: t) = wN (t.length + 1) x.toNat (b (x :: t) 1) (b (x :: t) 2) (b (x :: t) 3) := by
  unfold whole
  rw [if_neg (by simp)]
  rfl
/-- what may still become a rune has a fill -/
theorem some_fill {x : UInt8} {t : List UInt8} (h : full (x :: t) = false) : ∃ f ∈ fills, (whole (x :: t ++ f)).1 = (x :: t ++ f).length := by
  obtain ⟨h1, h2, h3⟩ := not_full_parts h (by simp)
  rw [b_cons_zero] at h1 h2
  have hl := not_full h
  have hlen : (x :: t).length = t.length + 1 := rfl
  rw [hlen] at h1 h2 h3 hl
  have hc := firstT_class x.toNat x.toNat_lt
  -- which fill a first byte wants
  have ha : (194 ≤ x.toNat ∧ x.toNat ≤ 223) ∨ (224 ≤ x.toNat ∧ x.toNat ≤ 239) ∨ (240 ≤ x.toNat ∧ x.toNat ≤ 244) := by
    rcases hc with ⟨hx, e⟩ | ⟨hx, e⟩ | ⟨hx, e⟩ | ⟨hx, e⟩ | ⟨hx, e⟩ | ⟨hx, e⟩ | ⟨hx, e⟩ | ⟨hx, e⟩ | ⟨hx, e⟩ <;> rw [e] at h1 <;> simp only [Nat.reduceMod] at h1 <;> omega
  have hlo : accLo (firstT x.toNat / 16) ≤ 128 ∧ 128 ≤ accHi (firstT x.toNat / 16) ∨ accLo (firstT x.toNat / 16) ≤ 160 ∧ 160 ≤ accHi (firstT x.toNat / 16) ∧ x.toNat = 224 ∨ accLo (firstT x.toNat / 16) ≤ 144 ∧ 144 ≤ accHi (firstT x.toNat / 16) ∧ x.toNat = 240 := by
    rcases hc with ⟨hx, e⟩ | ⟨hx, e⟩ | ⟨hx, e⟩ | ⟨hx, e⟩ | ⟨hx, e⟩ | ⟨hx, e⟩ | ⟨hx, e⟩ | ⟨hx, e⟩ | ⟨hx, e⟩ <;> rw [e] at h1 ⊢ <;> simp only [Nat.reduceMod] at h1 <;> first | (exfalso; omega) | (unfold accLo accHi; simp; done) | (unfold accLo accHi; simp [hx]; done)
  match t, hl, h2, h3, h1 with
  | [], _, _, _, h1 =>
    rcases ha with ha | ha | ha
    · exact ⟨[128], by simp [fills], by rw [List.cons_append, whole_cons]; exact congrArg Prod.fst (fill1 _ _ _ _ _ ⟨ha.1, ha.2, by simp, (show (128 : Nat) ≤ 128 by decide), (show (128 : Nat) ≤ 191 by decide)⟩)⟩
    · rcases hlo with hq | hq | hq
      · exact ⟨[128, 128], by simp [fills], by rw [List.cons_append, whole_cons]; exact fill2 _ _ _ _ _ ha ⟨by simp, hq⟩ ⟨by simp, (show (128 : Nat) ≤ 128 by decide), (show (128 : Nat) ≤ 191 by decide)⟩⟩
      · exact ⟨[160, 128], by simp [fills], by rw [List.cons_append, whole_cons]; exact fill2 _ _ _ _ _ ha ⟨by simp, hq.1, hq.2.1⟩ ⟨by simp, (show (128 : Nat) ≤ 128 by decide), (show (128 : Nat) ≤ 191 by decide)⟩⟩
      · omega
    · rcases hlo with hq | hq | hq
      · exact ⟨[128, 128, 128], by simp [fills], by rw [List.cons_append, whole_cons]; exact fill3 _ _ _ _ _ ha ⟨by simp, hq⟩ ⟨by simp, (show (128 : Nat) ≤ 128 by decide), (show (128 : Nat) ≤ 191 by decide)⟩ ⟨by simp, (show (128 : Nat) ≤ 128 by decide), (show (128 : Nat) ≤ 191 by decide)⟩⟩
      · omega
      · exact ⟨[144, 128, 128], by simp [fills], by rw [List.cons_append, whole_cons]; exact fill3 _ _ _ _ _ ha ⟨by simp, hq.1, hq.2.1⟩ ⟨by simp, (show (128 : Nat) ≤ 128 by decide), (show (128 : Nat) ≤ 191 by decide)⟩ ⟨by simp, (show (128 : Nat) ≤ 128 by decide), (show (128 : Nat) ≤ 191 by decide)⟩⟩
  | [y], _, h2, _, h1 =>
    have k2 := h2 (by simp)
    rcases ha with ha | ha | ha
    · exfalso
      rcases hc with ⟨hx, e⟩ | ⟨hx, e⟩ | ⟨hx, e⟩ | ⟨hx, e⟩ | ⟨hx, e⟩ | ⟨hx, e⟩ | ⟨hx, e⟩ | ⟨hx, e⟩ | ⟨hx, e⟩ <;> rw [e] at h1 <;> simp only [List.length_cons, List.length_nil, Nat.reduceMod] at h1 <;> omega
    · exact ⟨[128], by simp [fills], by rw [List.cons_append, whole_cons]; exact fill2 _ _ _ _ _ ha ⟨by simp, k2⟩ ⟨by simp, (show (128 : Nat) ≤ 128 by decide), (show (128 : Nat) ≤ 191 by decide)⟩⟩
    · exact ⟨[128, 128], by simp [fills], by rw [List.cons_append, whole_cons]; exact fill3 _ _ _ _ _ ha ⟨by simp, k2⟩ ⟨by simp, (show (128 : Nat) ≤ 128 by decide), (show (128 : Nat) ≤ 191 by decide)⟩ ⟨by simp, (show (128 : Nat) ≤ 128 by decide), (show (128 : Nat) ≤ 191 by decide)⟩⟩
  | [y, z], _, h2, h3, h1 =>
    have k2 := h2 (by simp)
    have k3 := h3 (by simp)
    rcases ha with ha | ha | ha
    · exfalso
      rcases hc with ⟨hx, e⟩ | ⟨hx, e⟩ | ⟨hx, e⟩ | ⟨hx, e⟩ | ⟨hx, e⟩ | ⟨hx, e⟩ | ⟨hx, e⟩ | ⟨hx, e⟩ | ⟨hx, e⟩ <;> rw [e] at h1 <;> simp only [List.length_cons, List.length_nil, Nat.reduceMod] at h1 <;> omega
    · exfalso
      rcases hc with ⟨hx, e⟩ | ⟨hx, e⟩ | ⟨hx, e⟩ | ⟨hx, e⟩ | ⟨hx, e⟩ | ⟨hx, e⟩ | ⟨hx, e⟩ | ⟨hx, e⟩ | ⟨hx, e⟩ <;> rw [e] at h1 <;> simp only [List.length_cons, List.length_nil, Nat.reduceMod] at h1 <;> omega
    · exact ⟨[128], by simp [fills], by rw [List.cons_append, whole_cons]; exact fill3 _ _ _ _ _ ha ⟨by simp, k2⟩ ⟨by simp, k3⟩ ⟨by simp, (show (128 : Nat) ≤ 128 by decide), (show (128 : Nat) ≤ 191 by decide)⟩⟩
  | _ :: _ :: _ :: _, hl, _, _, _ => simp at hl
/-- is this a true beginning of some whole rune? -/
def begins (l : List UInt8) : Bool := !l.isEmpty && !full l
theorem full_of_whole {l : List UInt8} (h : (whole l).1 ≠ 0) : full l = true := by
  cases hf : full l with
  | true => rfl
  | false =>
    match l with
    | [] => exact absurd rfl h
    | x :: t => exact absurd (by rw [(rest_cont hf).2]) h
end Go.Proofs.YtgkodjkhhmcnnaaDoor.gl
