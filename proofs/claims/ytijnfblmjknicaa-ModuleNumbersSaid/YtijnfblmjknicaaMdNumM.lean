/- One number's groups, on lists: how many; the last one (without Go). -/
import Derived.Test.YtijnfblmjknicaaMdBack
namespace Go.Proofs.Ytijnfblmjknicaa
namespace md
theorem grp_last_lt : ∀ (f u : Nat), u < 2 * 128 ^ f → ((grp f u).getLastD 0).toNat < 128
  | 0, u, h => by
    have hu : u < 2 := by simpa using h
    show (UInt8.ofNat u).toNat < 128
    rw [u8_toNat (by omega)]
    omega
  | f + 1, u, h => by
    unfold grp
    split
    · show (UInt8.ofNat u).toNat < 128
      rw [u8_toNat (by omega)]
      omega
    · have := grp_last_lt f (u / 128) (by rw [Nat.pow_succ] at h; omega)
      rw [List.getLastD_cons]
      have hne := grp_ne f (u / 128)
      cases hq : grp f (u / 128) with
      | nil => exact absurd hq hne
      | cons a r => rw [hq, List.getLastD_cons] at this; rw [List.getLastD_cons]; exact this
theorem grp_ten : ∀ (f u : Nat), u < 2 * 128 ^ f → u ≠ 0 → (grp f u).length = f + 1 → (grp f u).getLastD 0 = 1
  | 0, u, h, h0, _ => by
    have hu : u = 1 := by
      have : u < 2 := by simpa using h
      omega
    subst hu
    rfl
  | f + 1, u, h, h0, hl => by
    unfold grp at hl ⊢
    split at hl
    · simp at hl
    · rename_i hu
      rw [if_neg hu]
      have := grp_ten f (u / 128) (by rw [Nat.pow_succ] at h; omega) (by omega) (by simpa using hl)
      rw [List.getLastD_cons]
      have hne := grp_ne f (u / 128)
      cases hq : grp f (u / 128) with
      | nil => exact absurd hq hne
      | cons a r => rw [hq, List.getLastD_cons] at this; rw [List.getLastD_cons]; exact this
/-- how many groups are still to come -/
def glen (f v : Nat) : Nat := if v = 0 then 0 else (grp f v).length
theorem glen_start (u : Nat) : (grp 9 u).length = 1 + glen 8 (u / 128) := by
  unfold grp glen
  split
  · rw [if_pos (by omega)]; rfl
  · rw [if_neg (by omega), List.length_cons]; omega
theorem glen_step (f v : Nat) (h : v < 2 * 128 ^ f) (h0 : v ≠ 0) : glen f v = 1 + glen (f - 1) (v / 128) := by
  cases f with
  | zero =>
    have : v < 2 := by simpa using h
    unfold glen
    rw [if_neg h0, if_pos (by omega)]
    rfl
  | succ f =>
    unfold glen
    rw [if_neg h0]
    by_cases hv : v < 128
    · rw [show grp (f + 1) v = [UInt8.ofNat v] by unfold grp; rw [if_pos hv], if_pos (by omega)]; rfl
    · rw [show grp (f + 1) v = UInt8.ofNat (128 + v % 128) :: grp f (v / 128) by rw [grp, if_neg hv], if_neg (by omega), List.length_cons, Nat.add_sub_cancel]; omega
theorem grow_set (P l : List UInt8) (h : l ≠ []) (L : Nat) (hL : L + 1 = (P ++ l).length) (x : UInt8) : (P ++ l).set L x ++ [0] = P ++ (l.dropLast ++ [x, 0]) := by
  rw [List.length_append] at hL
  have hl : 0 < l.length := List.length_pos_iff.2 h
  rw [List.set_append, if_neg (by omega), List.append_assoc]
  congr 1
  have e : l = l.dropLast ++ [l.getLast h] := (List.dropLast_concat_getLast h).symm
  have hd : l.dropLast.length = l.length - 1 := List.length_dropLast
  rw [e]
  rw [List.set_append, if_neg (by omega), show L - P.length - l.dropLast.length = 0 by omega]
  simp
theorem last_at (P l : List UInt8) (h : l ≠ []) (L : Nat) (hL : L + 1 = (P ++ l).length) : (P ++ l)[L]? = some (l.getLastD 0) := by
  rw [List.length_append] at hL
  have hl : 0 < l.length := List.length_pos_iff.2 h
  rw [List.getElem?_append_right (by omega), show L - P.length = l.length - 1 by omega]
  cases l with
  | nil => exact absurd rfl h
  | cons a r => rw [List.getLastD_cons, ← List.getLast?_eq_getElem?]; simp [List.getLast?_cons]
end md
end Go.Proofs.Ytijnfblmjknicaa
