/- Runes that are written are read back; no Go. -/
import Derived.Test.YtknkmfofjbpdbaaDoorGlReadM
import Derived.Lib.RuneBytes
namespace Go.Proofs.YtknkmfofjbpdbaaDoor.gl
open Go.Lib

/-- what a number is read back as -/
def fix (r : Int) : Int := if 0 ≤ r ∧ r ≤ 1114111 ∧ (r < 55296 ∨ 57343 < r) then r else 65533
theorem u8_of (x : Int) (h0 : 0 ≤ x) (h1 : x < 256) : ((x.toNat.toUInt8).toNat : Int) = x := by
  rw [show x.toNat.toUInt8.toNat = x.toNat % 256 from rfl]
  omega
theorem whole_one (a : UInt8) (t : List UInt8) (r : Int) (h0 : 0 ≤ r) (h1 : r ≤ 127) (ha : (a.toNat : Int) = r) : whole (a :: t) = (1, r.toNat) := by
  unfold whole
  rw [if_neg (by simp), b_cons_zero]
  unfold wN
  rw [if_pos (by omega)]
  congr 1; omega
theorem whole_two (a c : UInt8) (t : List UInt8) (r : Int) (h0 : 128 ≤ r) (h1 : r ≤ 2047) (ha : (a.toNat : Int) = 192 + r / 64) (hb : (c.toNat : Int) = 128 + r % 64) : whole (a :: c :: t) = (2, r.toNat) := by
  unfold whole
  rw [if_neg (by simp), b_cons_zero, show b (a :: c :: t) 1 = c.toNat from rfl, List.length_cons, List.length_cons]
  unfold wN
  rw [if_neg (by omega), if_pos (by omega)]
  congr 1; omega
theorem whole_three (a c d : UInt8) (t : List UInt8) (r : Int) (h : (2048 ≤ r ∧ r < 55296) ∨ (57343 < r ∧ r ≤ 65535)) (ha : (a.toNat : Int) = 224 + r / 4096) (hb : (c.toNat : Int) = 128 + r / 64 % 64) (hc : (d.toNat : Int) = 128 + r % 64) : whole (a :: c :: d :: t) = (3, r.toNat) := by
  unfold whole
  rw [if_neg (by simp), b_cons_zero, show b (a :: c :: d :: t) 1 = c.toNat from rfl, show b (a :: c :: d :: t) 2 = d.toNat from rfl, List.length_cons, List.length_cons, List.length_cons]
  unfold wN
  rw [if_neg (by omega), if_neg (by omega), if_pos ?_]
  · congr 1; omega
  · refine ⟨by omega, ⟨by omega, ?_, ?_⟩, by omega⟩ <;> split <;> omega
theorem whole_four (a c d e : UInt8) (t : List UInt8) (r : Int) (h0 : 65536 ≤ r) (h1 : r ≤ 1114111) (ha : (a.toNat : Int) = 240 + r / 262144) (hb : (c.toNat : Int) = 128 + r / 4096 % 64) (hc : (d.toNat : Int) = 128 + r / 64 % 64) (hd : (e.toNat : Int) = 128 + r % 64) : whole (a :: c :: d :: e :: t) = (4, r.toNat) := by
  unfold whole
  rw [if_neg (by simp), b_cons_zero, show b (a :: c :: d :: e :: t) 1 = c.toNat from rfl, show b (a :: c :: d :: e :: t) 2 = d.toNat from rfl, show b (a :: c :: d :: e :: t) 3 = e.toNat from rfl, List.length_cons, List.length_cons, List.length_cons, List.length_cons]
  unfold wN
  rw [if_neg (by omega), if_neg (by omega), if_neg (by omega), if_pos ?_]
  · congr 1; omega
  · refine ⟨by omega, ⟨by omega, ?_, ?_⟩, by omega, by omega⟩ <;> split <;> omega
/-- a rune's bytes are whole, whatever comes behind them -/
theorem whole_enc (r : Int) (t : List UInt8) : whole (encodeRune r ++ t) = ((encodeRune r).length, (fix r).toNat) := by
  unfold encodeRune fix
  by_cases c1 : 0 ≤ r ∧ r ≤ 127
  · rw [encodeRuneZ_one c1.1 c1.2, if_pos (by omega)]
    exact whole_one _ t r c1.1 c1.2 (u8_of _ (by omega) (by omega))
  by_cases c2 : 128 ≤ r ∧ r ≤ 2047
  · rw [encodeRuneZ_two c2.1 c2.2, if_pos (by omega)]
    exact whole_two _ _ t r c2.1 c2.2 (u8_of _ (by omega) (by omega)) (u8_of _ (by omega) (by omega))
  by_cases c3 : (2048 ≤ r ∧ r < 55296) ∨ (57343 < r ∧ r ≤ 65535)
  · rw [encodeRuneZ_three c3, if_pos (by omega)]
    exact whole_three _ _ _ t r c3 (u8_of _ (by omega) (by omega)) (u8_of _ (by omega) (by omega)) (u8_of _ (by omega) (by omega))
  by_cases c4 : 65536 ≤ r ∧ r ≤ 1114111
  · rw [encodeRuneZ_four c4.1 c4.2, if_pos (by omega)]
    exact whole_four _ _ _ _ t r c4.1 c4.2 (u8_of _ (by omega) (by omega)) (u8_of _ (by omega) (by omega)) (u8_of _ (by omega) (by omega)) (u8_of _ (by omega) (by omega))
  · rw [encodeRuneZ_bad (by omega), if_neg (by omega)]
    exact whole_three _ _ _ t 65533 (by omega) (u8_of 239 (by omega) (by omega)) (u8_of 191 (by omega) (by omega)) (u8_of 189 (by omega) (by omega))
theorem enc_length (r : Int) : 1 ≤ (encodeRune r).length ∧ (encodeRune r).length ≤ 4 := by
  have := encodeRuneZ_length r
  unfold encodeRune
  rw [List.length_map]
  exact this
theorem fix_nat (r : Int) : ((fix r).toNat : Int) = fix r := by
  unfold fix
  split <;> omega
theorem runes_enc (r : Int) (t : List UInt8) : runes (encodeRune r ++ t) = fix r :: runes t := by
  have hl := enc_length r
  have hne : encodeRune r ++ t ≠ [] := fun h => by have := congrArg List.length h; rw [List.length_append, List.length_nil] at this; omega
  rw [runes_whole hne, whole_enc]
  dsimp only
  rw [if_neg (by omega), fix_nat, List.drop_left]
theorem runes_encs : ∀ rs : List Int, runes (rs.flatMap encodeRune) = rs.map fix
  | [] => rfl
  | r :: rs => by rw [List.flatMap_cons, runes_enc, runes_encs rs]; rfl
/-- what is read are runes -/
theorem whole_fix (l : List UInt8) : fix ((whole l).2 : Int) = (whole l).2 := by
  have h0 := b_lt l 0; have h1 := b_lt l 1; have h2 := b_lt l 2; have h3 := b_lt l 3
  unfold fix
  rw [if_pos]
  unfold whole
  split
  · simp
  · unfold wN
    repeat' split
    all_goals (simp only; first | omega | (rename_i g; obtain ⟨g0, ⟨g1, g2, g3⟩, g4⟩ := g; split at g2 <;> split at g3 <;> omega))
theorem runes_fix : ∀ (k : Nat) (l : List UInt8), l.length ≤ k → (runes l).map fix = runes l
  | k, l, h => by
    by_cases hl : l = []
    · subst hl; rfl
    · match k, h with
      | 0, h => exact absurd (List.length_eq_zero_iff.1 (by omega)) hl
      | k + 1, h =>
        have hn : 0 < l.length := List.length_pos_iff.2 hl
        rw [runes_whole hl]
        split
        · rw [List.map_cons, runes_fix k _ (by rw [List.length_drop]; omega)]
          rfl
        · rw [List.map_cons, runes_fix k _ (by rw [List.length_drop]; omega), whole_fix]
theorem fix_i32 (r : Int) : 0 ≤ fix r ∧ fix r ≤ 1114111 := by
  unfold fix
  split <;> omega
theorem runes_bound (l : List UInt8) : ∀ z ∈ runes l, 0 ≤ z ∧ z ≤ 1114111 := by
  intro z hz
  rw [← runes_fix _ l (Nat.le_refl _)] at hz
  obtain ⟨y, _, rfl⟩ := List.mem_map.1 hz
  exact fix_i32 y
theorem runes_len (l : List UInt8) : (runes l).length ≤ l.length := by
  have := read_len l.length l (Nat.le_refl _)
  unfold runes read
  rw [List.length_append, List.length_replicate]
  omega
end Go.Proofs.YtknkmfofjbpdbaaDoor.gl
