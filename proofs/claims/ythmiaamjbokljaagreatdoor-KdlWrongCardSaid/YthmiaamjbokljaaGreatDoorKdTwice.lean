/- twice: what tells of name after name whether it was there. -/
import Derived.Test.YthmiaamjbokljaaGreatDoorKdTake
namespace Go.Proofs.YthmiaamjbokljaaGreatDoor
open Go.RowKit Go.WideMaps Go.Maps
theorem agLaw : Keyed Tryz.prog 9 := string_keyed Tryz.underlying9
theorem agZero (w : World) : (zeroValue 3).run Tryz.prog w = .ok (.int .i64 0) w := by kernel_rfl
/-- the box in block b holds the map in block m, which says how often each name was there -/
structure AgAt (w : World) (b m : Nat) (seen : List (List UInt8)) : Prop where
  box : w.heap[b]? = some (.cells #[.map (some m)] 110 (0, 0))
  map : ∃ D : DataW Unit, w.ownsMap Tryz.prog 9 (plainElem Tryz.prog 3) m seen.length D ∧ IsMap D ∧ ∀ l, D.atKey (.string l) (.lit (.int .i64 0)) = .lit (.int .i64 (seen.count l))
set_option maxRecDepth 100000 in
theorem twice_any (w : World) : Calls Tryz.prog 45 #[] w fun ev w' => ev = .returned (.func (.func 75) #[] #[.pointer (some ⟨w.heap.size + 1, 0, none⟩)]) ∧ AgAt w' (w.heap.size + 1) w.heap.size [] ∧ Below w.heap.size w w' := by
  have hmm := @run_makeMap Tryz.prog
  go_enter Tryz.func45, Tryz.ntmps45
  go_wp2_with fail
  go_ret
  refine ⟨rfl, ⟨?_, .map [], ?_, ⟨[], rfl⟩, fun l => rfl⟩, ((Below.refl _ _).alloc (Nat.le_refl _) _).alloc (by simp) _⟩
  · have := heap_alloc_new (w.alloc (.map #[] 0)) (.cells #[.map (some w.heap.size)] 110)
    rwa [World.size_alloc] at this
  · exact (World.ownsMap_made _ _ _ _).alloc _
set_option maxRecDepth 100000 in
set_option maxHeartbeats 1600000 in
theorem again_any (x : List UInt8) (b m : Nat) (seen : List (List UInt8)) (w : World) (h : AgAt w b m seen) (hx : x.length ≤ 9223372036854775807) (hs : seen.length ≤ 4611686018427387904) :
    Calls Tryz.prog 75 #[str x, .pointer (some ⟨b, 0, none⟩)] w fun ev w' => ev = .returned (.bool (seen.any fun n => decide (n = x))) ∧ AgAt w' b m (seen ++ [x]) ∧ Fr (· = m) w w' := by
  obtain ⟨D, hown, hD, hat⟩ := h.map
  have hbox := h.box
  have hb : b < w.heap.size := (Array.getElem?_eq_some_iff.1 hbox).1
  have c0 : w.cell? ⟨b, 0, none⟩ = some (.map (some m)) := (cell_of_heap hbox).trans rfl
  have hkey : keyOf Tryz.prog 9 (str x) = some (.string x) := keyOf_string_mk Tryz.underlying9 (by rw [str_size]; unfold maxLen; omega)
  obtain ⟨c, hrun, hc, _⟩ := hown.lookup_int agLaw Tryz.underlying110 Tryz.underlying3 (agZero _) hkey
  obtain rfl : c = (seen.count x : Nat) := by
    have := (hat x).symm.trans hc
    injection this with h1
    injection h1 with _ h2
    exact h2.symm
  have hcl : seen.count x ≤ seen.length := List.count_le_length
  have hw1 : IntKind.i64.wrap ((seen.count x : Nat) + 1 : Int) = (seen.count x : Nat) + 1 := by rw [IntKind.wrap_i64]; omega
  have HR : Hid ((seen.any fun n => decide (n = x)) = decide (1 < ((seen.count x : Nat) : Int) + 1)) := Lib.hid (by
    rw [Bool.eq_iff_iff, List.any_eq_true]
    simp only [decide_eq_true_eq]
    have := List.count_pos_iff (a := x) (l := seen)
    constructor
    · rintro ⟨y, hy, rfl⟩
      have := List.count_pos_iff.2 hy
      omega
    · intro h1
      exact ⟨x, List.count_pos_iff.1 (by omega), rfl⟩)
  have HAT := Lib.hid hat
  have HD := Lib.hid hD
  have HOWN := Lib.hid hown
  have HB := Lib.hid hbox
  have hmb : b ≠ m := by
    rintro rfl
    obtain ⟨es, ck, hm, _⟩ := hown
    rw [hbox] at hm
    cases hm
  clear hat hD hc h
  generalize seen.any (fun n => decide (n = x)) = R at *
  have HL : Hid ((seen ++ [x]).length = seen.length + 1 ∧ ∀ l, (seen ++ [x]).count l = seen.count l + if l = x then 1 else 0) := Lib.hid ⟨by simp, fun l => by
    rw [List.count_append, List.count_singleton]
    congr 1
    by_cases hl : l = x
    · subst hl; simp
    · rw [if_neg hl, if_neg (by simpa using fun e => hl e.symm)]⟩
  generalize seen ++ [x] = seen' at *
  go_enter Tryz.func75, Tryz.ntmps75
  go_wp2_with (at_mapUpdate; refine wpList_mapUpdate_own _ rfl _ _ _ 110 rfl 9 3 agLaw Tryz.underlying110 _ m seen.length _ rfl hown (by unfold maxLen; omega) _ _ _ rfl rfl hkey _ [] (plainElem_int Tryz.underlying3 (WalkArith.wf_i64 (by omega))) ?_)
  intro w1 hown1 hgrow1
  have hf := hgrow1.block b hb (by simpa using hmb)
  have d0 : w1.cell? ⟨b, 0, none⟩ = some (.map (some m)) := (cell_of_eq hf 0).trans c0
  have HF : Hid (Fr (· = m) w w1) := Lib.hid ((Fr.of_grown hgrow1).wider (fun k _ e => (Option.some.inj e).symm))
  have HA : Hid (AgAt w1 b m seen') := Lib.hid ⟨hf.trans HB.out, _, by rw [HL.out.1]; exact hown1, HD.out.put _ _, fun l => by
    rw [HL.out.2 l]
    by_cases hl : l = x
    · subst hl
      rw [if_pos rfl, atKey_put_same HD.out (by trivial)]
      rfl
    · rw [if_neg hl, atKey_put_other (by simpa using hl), HAT.out l]
      rfl⟩
  obtain ⟨c', hrun1, hc1, _⟩ := hown1.lookup_int agLaw Tryz.underlying110 Tryz.underlying3 (agZero _) hkey
  obtain rfl : c' = (seen.count x : Nat) + 1 := by
    rw [atKey_put_same HD.out (by trivial)] at hc1
    injection hc1 with h1
    injection h1 with _ h2
    exact h2.symm
  clear hown1 hgrow1 hc1 hrun c0 hf
  go_wp2_with fail
  go_ret
  exact ⟨ret_bool HR.out.symm, HA.out, HF.out⟩
end Go.Proofs.YthmiaamjbokljaaGreatDoor
