/- Bytes as runes: what is whole, what a rune is, what is read, as lists; no Go. -/
import Derived.Lib.DecodeN
namespace Go.Proofs.YtgkodjkhhmcnnaaDoor.gl
open Go.Lib

/-- the byte at a place, 0 behind the end -/
def b (l : List UInt8) (i : Nat) : Nat := (l.getD i 0).toNat
theorem b_lt (l : List UInt8) (i : Nat) : b l i < 256 := (l.getD i 0).toNat_lt
/-- do bytes begin with what will not change any more? -/
def full (l : List UInt8) : Bool :=
  if l.length = 0 then false
  else if firstT (b l 0) % 8 ≤ l.length then true
  else if 1 < l.length ∧ (b l 1 < accLo (firstT (b l 0) / 16) ∨ accHi (firstT (b l 0) / 16) < b l 1) then true
  else if 2 < l.length ∧ (b l 2 < 128 ∨ 191 < b l 2) then true
  else false
/-- the first rune, and how many bytes it takes -/
def dec (l : List UInt8) : Nat × Nat := if l.length = 0 then (65533, 0) else decodeN l.length (b l 0) (b l 1) (b l 2) (b l 3)
theorem dec_size (l : List UInt8) (h : l ≠ []) : 1 ≤ (dec l).2 ∧ (dec l).2 ≤ l.length := by
  have hl : l.length ≠ 0 := fun h' => h (List.length_eq_zero_iff.1 h')
  unfold dec
  rw [if_neg hl]
  unfold decodeN
  repeat' split
  all_goals (try simp only)
  all_goals omega
theorem dec_rune (l : List UInt8) : (dec l).1 ≤ 1114111 := by
  have h0 := b_lt l 0; have h1 := b_lt l 1; have h2 := b_lt l 2; have h3 := b_lt l 3
  unfold dec
  split
  · simp
  · unfold decodeN
    repeat' split
    all_goals (try simp only)
    all_goals omega
theorem full_ne {l : List UInt8} (h : full l = true) : l ≠ [] := by
  rintro rfl
  simp [full] at h
theorem firstT_mod (x : Nat) : firstT x % 8 ≤ 4 := by
  unfold firstT
  repeat' split
  all_goals omega
theorem not_full {l : List UInt8} (h : full l = false) : l.length ≤ 3 := by
  unfold full at h
  have := firstT_mod (b l 0)
  split at h
  · omega
  · split at h
    · simp at h
    · omega
/-- what is known of bytes, and what waits -/
def readN : Nat → List UInt8 → List Int × List UInt8
  | 0, l => ([], l)
  | f + 1, l => if full l then (((dec l).1 : Int) :: (readN f (l.drop (dec l).2)).1, (readN f (l.drop (dec l).2)).2) else ([], l)
theorem readN_eq : ∀ (f g : Nat) (l : List UInt8), l.length ≤ f → l.length ≤ g → readN f l = readN g l
  | 0, 0, _, _, _ => rfl
  | 0, g + 1, l, h, _ => by
    obtain rfl : l = [] := List.length_eq_zero_iff.1 (by omega)
    simp [readN, full]
  | f + 1, 0, l, _, h => by
    obtain rfl : l = [] := List.length_eq_zero_iff.1 (by omega)
    simp [readN, full]
  | f + 1, g + 1, l, hf, hg => by
    simp only [readN]
    split
    · rename_i h
      have hs := dec_size l (full_ne h)
      have := readN_eq f g (l.drop (dec l).2) (by rw [List.length_drop]; omega) (by rw [List.length_drop]; omega)
      rw [this]
    · rfl
def read (l : List UInt8) : List Int × List UInt8 := readN l.length l
theorem read_stop {l : List UInt8} (h : full l = false) : read l = ([], l) := by
  unfold read
  cases hl : l.length with
  | zero => rfl
  | succ f => simp [readN, h]
theorem read_go {l : List UInt8} (h : full l = true) : read l = (((dec l).1 : Int) :: (read (l.drop (dec l).2)).1, (read (l.drop (dec l).2)).2) := by
  have hs := dec_size l (full_ne h)
  unfold read
  cases hl : l.length with
  | zero => omega
  | succ f =>
    simp only [readN, h, if_true]
    rw [readN_eq f _ (l.drop (dec l).2) (by rw [List.length_drop]; omega) (Nat.le_refl _)]
theorem read_rest : ∀ (f : Nat) (l : List UInt8), l.length ≤ f → full (readN f l).2 = false
  | 0, l, h => by
    obtain rfl : l = [] := List.length_eq_zero_iff.1 (by omega)
    rfl
  | f + 1, l, h => by
    simp only [readN]
    split
    · rename_i hf
      have hs := dec_size l (full_ne hf)
      exact read_rest f _ (by rw [List.length_drop]; omega)
    · rename_i hf
      simpa using hf
theorem rest_len (l : List UInt8) : (read l).2.length ≤ 3 := not_full (read_rest _ l (Nat.le_refl _))
theorem read_len : ∀ (f : Nat) (l : List UInt8), l.length ≤ f → (readN f l).1.length + (readN f l).2.length ≤ l.length
  | 0, l, _ => by simp [readN]
  | f + 1, l, h => by
    simp only [readN]
    split
    · rename_i hf
      have hs := dec_size l (full_ne hf)
      have := read_len f (l.drop (dec l).2) (by rw [List.length_drop]; omega)
      rw [List.length_drop] at this
      simp only [List.length_cons]
      omega
    · simp
/-- the runes of bytes -/
def runes (l : List UInt8) : List Int := (read l).1 ++ List.replicate (read l).2.length 65533
end Go.Proofs.YtgkodjkhhmcnnaaDoor.gl
