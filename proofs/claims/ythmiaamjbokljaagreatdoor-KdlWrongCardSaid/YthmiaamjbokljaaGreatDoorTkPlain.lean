/- Plain. -/
import Derived.Test.YthmiaamjbokljaaGreatDoorTkTokens
namespace Go.Proofs.YthmiaamjbokljaaGreatDoor
open Go.RowKit
def tk.plain (s : List UInt8) : Bool := match (tk.tokens s).1 with
  | [t] => decide (t.kind = 1 ∧ t.text = s)
  | _ => false
/-- a token's cells in a row -/
theorem tok_at {w : World} {B : Nat} {V : Value} {l : List tk.Tok} (h : w.ownsRow B 82 4 V l.length (tokC l)) {k : Nat} {t : tk.Tok} (hk : l[k]? = some t) : ∃ g cap, V = .slice (some ⟨g, 0, none⟩) l.length cap ∧ l.length ≤ cap ∧ cap ≤ 9223372036854775807 ∧ B ≤ g ∧ g < w.heap.size ∧ w.cell? ⟨g, k * 4, none⟩ = some (.int .i64 t.kind) ∧ w.cell? ⟨g, k * 4 + 1, none⟩ = some (str t.text) ∧ w.cell? ⟨g, k * 4 + 2, none⟩ = some (.int .i64 t.int) ∧ w.cell? ⟨g, k * 4 + 3, none⟩ = some (.int .i64 t.at_) := by
  have hkl : k < l.length := (List.getElem?_eq_some_iff.1 hk).1
  rcases h.2 with ⟨_, h0⟩ | ⟨g, cap, cur, rfl, hB, hg, hc, hm, hs, ht⟩
  · omega
  · have key : ∀ f, f < 4 → w.cell? ⟨g, k * 4 + f, none⟩ = (tok1 t)[f]? := fun f hf => by
      rw [cell_of_heap hg, ← Array.getElem?_toList]
      have h1 : cur.toList[k * 4 + f]? = (tokC l)[k * 4 + f]? := by rw [← ht, List.getElem?_take, if_pos (by omega)]
      rw [h1]
      clear h1 ht hs hg h hc hm
      induction l generalizing k with
      | nil => simp at hk
      | cons u l ih =>
        have e : tokC (u :: l) = tok1 u ++ tokC l := rfl
        have hl4 : (tok1 u).length = 4 := rfl
        rw [e]
        cases k with
        | zero =>
          obtain rfl : u = t := by simpa using hk
          rw [List.getElem?_append_left (by omega), Nat.zero_mul, Nat.zero_add]
        | succ k =>
          rw [List.getElem?_append_right (by omega), hl4, show (k + 1) * 4 + f - 4 = k * 4 + f by omega]
          exact ih (by simpa using hk) (by simpa using hkl)
    exact ⟨g, cap, rfl, hc, hm, hB, (Array.getElem?_eq_some_iff.1 hg).1, key 0 (by omega), key 1 (by omega), key 2 (by omega), key 3 (by omega)⟩
set_option maxRecDepth 100000 in
set_option maxHeartbeats 1600000 in
theorem plain_any (s : List UInt8) (w : World) (ht : TT w) (hl : s.length ≤ 1048576) :
    Calls Tryz.prog 47 #[str s] w fun e w' => e = .returned (.bool (tk.plain s)) ∧ Below w.heap.size w w' := by
  have HT := Lib.hid (tokens_any s w ht hl)
  have HD : Hid (tk.plain s = match (tk.tokens s).1 with
    | [t] => decide (t.kind = 1 ∧ t.text = s)
    | _ => false) := Lib.hid rfl
  generalize tk.tokens s = T at *
  generalize tk.plain s = R at *
  obtain ⟨tl, tc, tp⟩ := T
  dsimp only at HT HD
  clear ht
  go_enter Tryz.func47, Tryz.ntmps47
  go_wp2_with fail
  refine HT.out.mono ?_
  rintro e w1 ⟨V, rfl, hrow, hb⟩
  have HB := Lib.hid (hb.trans ((below_one w1 (.cells #[.int .i64 tc, .int .i64 tp] 30)).mono hb.size))
  have HRW := Lib.hid (row_below hrow (below_one w1 (.cells #[.int .i64 tc, .int .i64 tp] 30)))
  obtain ⟨ao, ac, rfl⟩ := own_slice hrow
  clear hrow hb HT
  go_upto_region 2 with fail
  generalize w1.alloc (.cells #[.int .i64 tc, .int .i64 tp] 30) = w2 at *
  match tl, HRW, HD with
  | [], HRW, HD =>
    simp only [List.length_nil]
    go_wp2_with fail
    go_ret
    exact ⟨ret_bool (by rw [HD.out]), HB.out⟩
  | t :: u :: r, HRW, HD =>
    have hlb : ((((t :: u :: r).length : Nat) : Int) == 1) = false := by
      simp only [List.length_cons, beq_eq_false_iff_ne]
      omega
    generalize (t :: u :: r).length = n at *
    go_wp2_with fail
    go_ret
    exact ⟨ret_bool (by rw [HD.out]), HB.out⟩
  | [t], HRW, HD =>
    obtain ⟨g, cap, hV, _, hcm, _, hg, k0, k1, _, _⟩ := tok_at HRW.out (k := 0) rfl
    obtain ⟨rfl, -, rfl⟩ := Value.slice.inj hV
    simp only [List.length_singleton, Nat.zero_mul, Nat.zero_add] at k0 k1 ⊢
    by_cases h1 : t.kind = 1
    · have h1i : ((t.kind : Int) == 1) = true := by simp; omega
      go_wp2_with fail
      go_ret
      refine ⟨ret_bool ?_, HB.out⟩
      rw [HD.out]
      simp [h1]
      rw [Bool.eq_iff_iff]
      simp
    · have h1i : ((t.kind : Int) == 1) = false := by simp; omega
      go_wp2_with fail
      go_ret
      exact ⟨ret_bool (by rw [HD.out]; simp [h1]), HB.out⟩
end Go.Proofs.YthmiaamjbokljaaGreatDoor
