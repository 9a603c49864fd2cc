/- A rune's bytes behind a beginning of another one's; no Go. -/
import Derived.Test.YtknkmfofjbpdbaaDoorGlEncM
namespace Go.Proofs.YtknkmfofjbpdbaaDoor.gl
open Go.Lib

theorem cont_whole {x : UInt8} (l : List UInt8) (h : cont x) : whole (x :: l) = (0, 0) := by
  obtain ⟨h1, h2⟩ := h
  unfold whole
  rw [if_neg (by simp), b_cons_zero]
  unfold wN
  rw [if_neg (by omega), if_neg (by omega), if_neg (by omega), if_neg (by omega)]
theorem runes_conts : ∀ (t l : List UInt8), (∀ z ∈ t, cont z) → runes (t ++ l) = List.replicate t.length 65533 ++ runes l
  | [], l, _ => rfl
  | x :: t, l, h => by
    rw [List.cons_append, runes_whole (by simp), cont_whole _ (h x (by simp))]
    rw [if_pos rfl]
    show (65533 : Int) :: runes (t ++ l) = _
    rw [runes_conts t l (fun y hy => h y (by simp [hy]))]
    rfl
/-- a byte that goes no rune on -/
def noCont (y : Nat) : Prop := y < 128 ∨ 192 ≤ y
theorem lead_none (n x0 x1 x2 x3 : Nat) (h : (194 ≤ x0 ∧ x0 ≤ 223 ∧ noCont x1) ∨ (224 ≤ x0 ∧ x0 ≤ 239 ∧ (noCont x1 ∨ noCont x2)) ∨ (240 ≤ x0 ∧ x0 ≤ 244 ∧ (noCont x1 ∨ noCont x2 ∨ noCont x3))) : wN n x0 x1 x2 x3 = (0, 0) := by
  unfold noCont at h
  unfold wN
  rw [if_neg (by omega), if_neg (by omega), if_neg ?_, if_neg ?_]
  · rintro ⟨_, ⟨_, g2, g3⟩, g4, g5⟩
    split at g2 <;> split at g3 <;> omega
  · rintro ⟨_, ⟨_, g2, g3⟩, g4⟩
    split at g2 <;> split at g3 <;> omega
theorem pre_none (x : UInt8) (t : List UInt8) (y : UInt8) (u : List UInt8) (hy : noCont y.toNat) (hx : (194 ≤ x.toNat ∧ x.toNat ≤ 223 ∧ t.length = 0) ∨ (224 ≤ x.toNat ∧ x.toNat ≤ 239 ∧ t.length ≤ 1) ∨ (240 ≤ x.toNat ∧ x.toNat ≤ 244 ∧ t.length ≤ 2)) : whole (x :: (t ++ y :: u)) = (0, 0) := by
  unfold whole
  rw [if_neg (by simp), b_cons_zero]
  refine lead_none _ _ _ _ _ ?_
  unfold noCont at hy ⊢
  match t, hx with
  | [], hx =>
    rw [show b (x :: ([] ++ y :: u)) 1 = y.toNat from rfl]
    simp only [List.length_nil] at hx
    omega
  | [c], hx =>
    rw [show b (x :: ([c] ++ y :: u)) 2 = y.toNat from rfl]
    simp only [List.length_cons, List.length_nil] at hx
    omega
  | [c, d], hx =>
    rw [show b (x :: ([c, d] ++ y :: u)) 3 = y.toNat from rfl]
    simp only [List.length_cons, List.length_nil] at hx
    omega
  | c :: d :: e :: t, hx =>
    simp only [List.length_cons] at hx
    omega
theorem runes_pre (x : UInt8) (t : List UInt8) (y : UInt8) (u : List UInt8) (hy : noCont y.toNat) (ht : ∀ z ∈ t, cont z) (hx : (194 ≤ x.toNat ∧ x.toNat ≤ 223 ∧ t.length = 0) ∨ (224 ≤ x.toNat ∧ x.toNat ≤ 239 ∧ t.length ≤ 1) ∨ (240 ≤ x.toNat ∧ x.toNat ≤ 244 ∧ t.length ≤ 2)) :
    runes (x :: t ++ y :: u) = List.replicate (t.length + 1) 65533 ++ runes (y :: u) := by
  rw [List.cons_append, runes_whole (by simp), pre_none x t y u hy hx, if_pos rfl]
  show (65533 : Int) :: runes (t ++ y :: u) = _
  rw [runes_conts t _ ht]
  rfl
theorem enc_head (r : Int) : ∃ y u, encodeRune r = y :: u ∧ noCont y.toNat := by
  unfold encodeRune
  by_cases c1 : 0 ≤ r ∧ r ≤ 127
  · rw [encodeRuneZ_one c1.1 c1.2]
    have := u8_of r (by omega) (by omega)
    exact ⟨_, _, rfl, by unfold noCont; dsimp only; omega⟩
  by_cases c2 : 128 ≤ r ∧ r ≤ 2047
  · rw [encodeRuneZ_two c2.1 c2.2]
    have := u8_of (192 + r / 64) (by omega) (by omega)
    exact ⟨_, _, rfl, by unfold noCont; dsimp only; omega⟩
  by_cases c3 : (2048 ≤ r ∧ r < 55296) ∨ (57343 < r ∧ r ≤ 65535)
  · rw [encodeRuneZ_three c3]
    have := u8_of (224 + r / 4096) (by omega) (by omega)
    exact ⟨_, _, rfl, by unfold noCont; dsimp only; omega⟩
  by_cases c4 : 65536 ≤ r ∧ r ≤ 1114111
  · rw [encodeRuneZ_four c4.1 c4.2]
    have := u8_of (240 + r / 262144) (by omega) (by omega)
    exact ⟨_, _, rfl, by unfold noCont; dsimp only; omega⟩
  · rw [encodeRuneZ_bad (by omega)]
    have := u8_of 239 (by omega) (by omega)
    exact ⟨_, _, rfl, by unfold noCont; dsimp only; omega⟩
theorem cont_of (x : Int) (h0 : 128 ≤ x) (h1 : x ≤ 191) : cont x.toNat.toUInt8 := by
  have := u8_of x (by omega) (by omega)
  unfold cont
  omega
/-- a beginning of a rune's bytes: a first byte, and bytes that go it on -/
theorem enc_take (s : Int) (N : Nat) (h0 : 0 < N) (hN : N < (encodeRune s).length) : ∃ x t, (encodeRune s).take N = x :: t ∧ t.length + 1 = N ∧ (∀ z ∈ t, cont z) ∧ ((194 ≤ x.toNat ∧ x.toNat ≤ 223 ∧ t.length = 0) ∨ (224 ≤ x.toNat ∧ x.toNat ≤ 239 ∧ t.length ≤ 1) ∨ (240 ≤ x.toNat ∧ x.toNat ≤ 244 ∧ t.length ≤ 2)) := by
  unfold encodeRune at hN ⊢
  by_cases c1 : 0 ≤ s ∧ s ≤ 127
  · rw [encodeRuneZ_one c1.1 c1.2] at hN
    simp at hN
    omega
  by_cases c2 : 128 ≤ s ∧ s ≤ 2047
  · rw [encodeRuneZ_two c2.1 c2.2] at hN ⊢
    simp only [List.map_cons, List.map_nil, List.length_cons, List.length_nil] at hN ⊢
    obtain rfl : N = 1 := by omega
    have := u8_of (192 + s / 64) (by omega) (by omega)
    exact ⟨_, _, rfl, rfl, by simp, .inl ⟨by omega, by omega, rfl⟩⟩
  by_cases c3 : (2048 ≤ s ∧ s < 55296) ∨ (57343 < s ∧ s ≤ 65535)
  · rw [encodeRuneZ_three c3] at hN ⊢
    simp only [List.map_cons, List.map_nil, List.length_cons, List.length_nil] at hN ⊢
    have := u8_of (224 + s / 4096) (by omega) (by omega)
    have k1 := cont_of (128 + s / 64 % 64) (by omega) (by omega)
    obtain rfl | rfl : N = 1 ∨ N = 2 := by omega
    · exact ⟨_, _, rfl, rfl, by simp, .inr (.inl ⟨by omega, by omega, by simp⟩)⟩
    · exact ⟨_, _, rfl, rfl, by simpa using k1, .inr (.inl ⟨by omega, by omega, by simp⟩)⟩
  by_cases c4 : 65536 ≤ s ∧ s ≤ 1114111
  · rw [encodeRuneZ_four c4.1 c4.2] at hN ⊢
    simp only [List.map_cons, List.map_nil, List.length_cons, List.length_nil] at hN ⊢
    have := u8_of (240 + s / 262144) (by omega) (by omega)
    have k1 := cont_of (128 + s / 4096 % 64) (by omega) (by omega)
    have k2 := cont_of (128 + s / 64 % 64) (by omega) (by omega)
    obtain rfl | rfl | rfl : N = 1 ∨ N = 2 ∨ N = 3 := by omega
    · exact ⟨_, _, rfl, rfl, by simp, .inr (.inr ⟨by omega, by omega, by simp⟩)⟩
    · exact ⟨_, _, rfl, rfl, by simpa using k1, .inr (.inr ⟨by omega, by omega, by simp⟩)⟩
    · exact ⟨_, _, rfl, rfl, by simpa using ⟨k1, k2⟩, .inr (.inr ⟨by omega, by omega, by simp⟩)⟩
  · rw [encodeRuneZ_bad (by omega)] at hN ⊢
    simp only [List.map_cons, List.map_nil, List.length_cons, List.length_nil] at hN ⊢
    have := u8_of 239 (by omega) (by omega)
    have k1 := cont_of 191 (by omega) (by omega)
    obtain rfl | rfl : N = 1 ∨ N = 2 := by omega
    · exact ⟨_, _, rfl, rfl, by simp, .inr (.inl ⟨by omega, by omega, by simp⟩)⟩
    · exact ⟨_, _, rfl, rfl, by simpa using k1, .inr (.inl ⟨by omega, by omega, by simp⟩)⟩
theorem runes_cut (r s : Int) (N : Nat) (hN : N < (encodeRune s).length) : runes ((encodeRune s).take N ++ encodeRune r) = List.replicate N 65533 ++ [fix r] := by
  have h1 : runes (encodeRune r) = [fix r] := by
    have := runes_enc r []
    rw [List.append_nil] at this
    exact this
  by_cases h0 : N = 0
  · subst h0
    rw [List.take_zero, List.nil_append, h1]
    rfl
  · obtain ⟨x, t, e, hl, hc, hx⟩ := enc_take s N (by omega) hN
    obtain ⟨y, u, e2, hy⟩ := enc_head r
    rw [e, e2, runes_pre x t y u hy hc hx, hl, ← e2, h1]
end Go.Proofs.YtknkmfofjbpdbaaDoor.gl
