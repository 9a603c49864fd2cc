/- What package glyph's widths do: a rune in spans, and how many cells it takes. -/
import Derived.Test.YtbmcmcdgdhabaaaDoorChecked
import Derived.Test.YtbmcmcdgdhabaaaDoorRows
import Derived.Test.YtbmcmcdgdhabaaaDoorMdMem
import Derived.WalkKit
import Derived.WalkSpells
import Derived.WalkLawsBesides
import Derived.WalkSmall
import Derived.Lib.Hide
import Derived.Below
import Derived.BigQuiet
import Derived.LoopTactic
import Derived.Deep.LoopGhost
import Derived.Deep.Cut
namespace Go.Proofs.YtbmcmcdgdhabaaaDoor
open Go.RowKit


/-- lies a number in a span? in some of many? -/
def inS (r : Int) (p : Int × Int) : Bool := decide (p.1 ≤ r ∧ r ≤ p.2)
def inAny (r : Int) (l : List (Int × Int)) : Bool := l.any (inS r)
/-- spans in a row -/
def RowP (w : World) (g : Nat) (L : List (Int × Int)) : Prop := ∀ (t : Nat) p, L[t]? = some p → w.cell? ⟨g, t * 2, none⟩ = some (.int .i32 p.1) ∧ w.cell? ⟨g, t * 2 + 1, none⟩ = some (.int .i32 p.2)
theorem RowP.below {w w' : World} {g : Nat} {L : List (Int × Int)} (H : RowP w g L) {B : Nat} (hb : Below B w w') (hg : g < B) : RowP w' g L := fun t p ht =>
  ⟨(hb.cell (p := ⟨g, t * 2, none⟩) hg).trans (H t p ht).1, (hb.cell (p := ⟨g, t * 2 + 1, none⟩) hg).trans (H t p ht).2⟩

theorem within1_any (a b r : Int) (B : Nat) (w : World) (hB : B < w.heap.size) (hr : w.cell? ⟨B, 0, none⟩ = some (.int .i32 r)) :
    Calls Tryd.prog 36 #[.agg #[.int .i32 a, .int .i32 b], .pointer (some ⟨B, 0, none⟩)] w fun e w' => e = .returned (.bool (inS r (a, b))) ∧ Below w.heap.size w w' := by
  go_enter Tryd.func36, Tryd.ntmps36
  go_wp2
  all_goals
    go_ret
    exact ⟨ret_bool (by unfold inS; rw [Bool.eq_iff_iff]; simp; try omega), (Below.refl _ _).alloc (Nat.le_refl _) _⟩

set_option maxHeartbeats 800000 in
theorem indexFunc_any (g n cap B : Nat) (r : Int) (L : List (Int × Int)) (w : World) (hB : B < w.heap.size) (hr : w.cell? ⟨B, 0, none⟩ = some (.int .i32 r)) (hL : RowP w g L) (hg : g < w.heap.size) (hl : L.length = n) (hn : n ≤ 100) :
    Calls Tryd.prog 37 #[.slice (some ⟨g, 0, none⟩) n cap, .func (.func 36) #[] #[.pointer (some ⟨B, 0, none⟩)]] w fun e w' =>
      ∃ k : Int, e = .returned (.int .i64 k) ∧ decide (0 ≤ k) = inAny r L ∧ Below w.heap.size w w' := by
  have HL := Lib.hid hl; clear hl
  have HR := Lib.hid hL; clear hL
  go_enter Tryd.func37, Tryd.ntmps37
  go_wp2_with fail
  go_loopg [8] n (fun gg s8 wr => ∃ k : Nat, s8 = .int .i64 k ∧ k ≤ n ∧ n - k ≤ gg ∧ Hid (inAny r (L.take k) = false) ∧ Below w.heap.size w wr)
  case atStart => exact ⟨0, rfl, Nat.zero_le _, by omega, Lib.hid rfl, Below.refl _ _⟩
  case round =>
    obtain ⟨k, rfl, hk, hgg, hno, hbel⟩ := hrel
    by_cases hlt : k < n
    · obtain ⟨p, hp⟩ : ∃ p, L[k]? = some p := ⟨_, List.getElem?_eq_getElem (by rw [HL.out]; exact hlt)⟩
      obtain ⟨k0, k1⟩ := (HR.out.below hbel hg) k p hp
      have hts : L.take (k + 1) = L.take k ++ [p] := by
        obtain ⟨h1, h2⟩ := List.getElem?_eq_some_iff.1 hp
        rw [List.take_succ_eq_append_getElem h1, h2]
      have hnx : inAny r (L.take (k + 1)) = inS r p := by rw [hts]; unfold inAny; rw [List.any_append]; have := hno.out; unfold inAny at this; rw [this]; simp
      have hall : inS r p = true → inAny r L = true := fun h => by unfold inAny; exact List.any_eq_true.2 ⟨p, List.mem_of_getElem? hp, h⟩
      clear hp hts
      have hrc : wr.cell? ⟨B, 0, none⟩ = some (.int .i32 r) := (hbel.cell (p := ⟨B, 0, none⟩) hB).trans hr
      have hBr : B < wr.heap.size := Nat.lt_of_lt_of_le hB hbel.size
      obtain ⟨a, b⟩ := p
      dsimp only at k0 k1
      have HNX := Lib.hid hnx; have HALL := Lib.hid hall
      clear hnx hall
      go_wp2_with fail
      refine (within1_any a b r B wr hBr hrc).mono ?_
      rintro e w2 ⟨rfl, hb2⟩
      have hbel2 := hbel.trans (hb2.mono hbel.size)
      clear k0 k1 hrc
      generalize hv : inS r (a, b) = v at *
      cases v
      · go_wp2_with fail
        go_roundg (n - (k + 1))
        case measure => omega
        case rel => exact ⟨k + 1, by go_num, by omega, Nat.le_refl _, HNX, hbel2⟩
      · go_wp2_with fail
        go_ret
        exact ⟨(k : Int), rfl, by rw [HALL.out (by trivial)]; simp, hbel2⟩
    · obtain rfl : k = n := by omega
      have e : L.take k = L := List.take_of_length_le (by rw [HL.out]; exact Nat.le_refl _)
      have hno' := hno.out
      rw [e] at hno'
      have HNO := Lib.hid hno'
      clear hno hno' e
      go_wp2_with fail
      go_ret
      exact ⟨-1, rfl, by rw [HNO.out]; decide, hbel⟩

set_option maxHeartbeats 400000 in
theorem within_any (g n cap : Nat) (r : Int) (L : List (Int × Int)) (w : World) (hL : RowP w g L) (hg : g < w.heap.size) (hl : L.length = n) (hn : n ≤ 100) :
    Calls Tryd.prog 34 #[.int .i32 r, .slice (some ⟨g, 0, none⟩) n cap] w fun e w' => e = .returned (.bool (inAny r L)) ∧ Below w.heap.size w w' := by
  have hci : ∀ (W : World) (B : Nat), B < W.heap.size → W.cell? ⟨B, 0, none⟩ = some (.int .i32 r) → RowP W g L → g < W.heap.size →
      Calls Tryd.prog 35 #[.slice (some ⟨g, 0, none⟩) n cap, .func (.func 36) #[] #[.pointer (some ⟨B, 0, none⟩)]] W fun e w' => e = .returned (.bool (inAny r L)) ∧ Below W.heap.size W w' := by
    intro W B hB hr hrow hgW
    go_enter Tryd.func35, Tryd.ntmps35
    go_wp2_with fail
    refine (indexFunc_any g n cap B r L W hB hr hrow hgW hl hn).mono ?_
    rintro e w2 ⟨k, rfl, hk, hb2⟩
    go_wp2_with fail
    go_ret
    exact ⟨ret_bool (by rw [← hk]), hb2⟩
  have HCI := Lib.hid hci; clear hci
  have HL := Lib.hid hL; clear hL hl
  go_enter Tryd.func34, Tryd.ntmps34
  go_wp2_with fail
  have hb0 := (Below.refl w.heap.size w).alloc (Nat.le_refl _) (.cells #[.int .i32 r] 21)
  refine (HCI.out _ w.heap.size (by simp) (by simp) (HL.out.below hb0 hg) (by simp; omega)).mono ?_
  rintro e w2 ⟨rfl, hb2⟩
  go_wp2_with fail
  go_ret
  exact ⟨rfl, hb0.trans (hb2.mono hb0.size)⟩

def narrowL : List (Int × Int) := [(-2147483648, 31), (127, 159), (768, 879), (8203, 8207), (55296, 57343), (65024, 65039), (1114112, 2147483647)]
def wideL : List (Int × Int) := [(4352, 4447), (11904, 12350), (12353, 42191), (44032, 55203), (63744, 64255), (65072, 65135), (65280, 65376), (65504, 65510), (127744, 128591), (129280, 129535), (131072, 262141)]
/-- how many cells a rune takes -/
def wd (r : Int) : Int := if inAny r narrowL then 0 else if inAny r wideL then 2 else 1

theorem rowP_cons {w : World} {g : Nat} : ∀ (L : List (Int × Int)) (o : Nat), (∀ (t : Nat) p, L[t]? = some p → w.cell? ⟨g, (o + t) * 2, none⟩ = some (.int .i32 p.1) ∧ w.cell? ⟨g, (o + t) * 2 + 1, none⟩ = some (.int .i32 p.2)) → o = 0 → RowP w g L := fun L o h h0 t p ht => by
  have := h t p ht
  rw [h0, Nat.zero_add] at this
  exact this
def flatP (l : List (Int × Int)) : List Value := l.flatMap fun p => [.int .i32 p.1, .int .i32 p.2]
theorem flatP_get : ∀ (L : List (Int × Int)) (t : Nat) (p : Int × Int), L[t]? = some p → (flatP L)[t * 2]? = some (.int .i32 p.1) ∧ (flatP L)[t * 2 + 1]? = some (.int .i32 p.2)
  | [], t, p, h => by simp at h
  | q :: L, 0, p, h => by simp at h; subst h; simp [flatP]
  | q :: L, t + 1, p, h => by
    have := flatP_get L t p (by simpa using h)
    rw [show (t + 1) * 2 = t * 2 + 1 + 1 by omega, show (t * 2 + 1 + 1 + 1) = (t * 2 + 1) + 1 + 1 by omega]
    simp only [flatP, List.flatMap_cons, List.cons_append, List.nil_append, List.getElem?_cons_succ] at this ⊢
    exact this
theorem rowP_new (w : World) (L : List (Int × Int)) (c : Array Value) (T : TypeId) (hc : c = (flatP L).toArray) : RowP (w.alloc (.cells c T)) w.heap.size L := by
  intro t p ht
  obtain ⟨h1, h2⟩ := flatP_get L t p ht
  subst hc
  exact ⟨by rw [World.cell?_alloc_new]; simpa using h1, by rw [World.cell?_alloc_new]; simpa using h2⟩

set_option maxHeartbeats 400000 in
theorem narrow_any (r : Int) (w : World) : Calls Tryd.prog 32 #[.int .i32 r] w fun e w' => e = .returned (.bool (inAny r narrowL)) ∧ Below w.heap.size w w' := by
  go_enter Tryd.func32, Tryd.ntmps32
  go_wp2_with fail
  refine (within_any w.heap.size 7 7 r narrowL _ (rowP_new w narrowL _ _ rfl) (by simp) rfl (by decide)).mono ?_
  rintro e w2 ⟨rfl, hb2⟩
  go_wp2_with fail
  go_ret
  exact ⟨rfl, ((Below.refl w.heap.size w).alloc (Nat.le_refl _) _).trans (hb2.mono (by simp))⟩
set_option maxHeartbeats 400000 in
theorem wide_any (r : Int) (w : World) : Calls Tryd.prog 33 #[.int .i32 r] w fun e w' => e = .returned (.bool (inAny r wideL)) ∧ Below w.heap.size w w' := by
  go_enter Tryd.func33, Tryd.ntmps33
  go_wp2_with fail
  refine (within_any w.heap.size 11 11 r wideL _ (rowP_new w wideL _ _ rfl) (by simp) rfl (by decide)).mono ?_
  rintro e w2 ⟨rfl, hb2⟩
  go_wp2_with fail
  go_ret
  exact ⟨rfl, ((Below.refl w.heap.size w).alloc (Nat.le_refl _) _).trans (hb2.mono (by simp))⟩
theorem width_any (r : Int) (w : World) : Calls Tryd.prog 30 #[.int .i32 r] w fun e w' => e = .returned (.int .i64 (wd r)) ∧ Below w.heap.size w w' := by
  go_enter Tryd.func30, Tryd.ntmps30
  go_wp2_with fail
  refine (narrow_any _ _).mono ?_
  rintro e w2 ⟨rfl, hb2⟩
  cases h1 : inAny r narrowL
  · go_wp2_with fail
    refine (wide_any _ _).mono ?_
    rintro e w3 ⟨rfl, hb3⟩
    have hb := hb2.trans (hb3.mono hb2.size)
    cases h2 : inAny r wideL
    · go_wp2_with fail
      go_ret
      exact ⟨ret_int (by unfold wd; rw [h1, h2]; rfl), hb⟩
    · go_wp2_with fail
      go_ret
      exact ⟨ret_int (by unfold wd; rw [h1, h2]; rfl), hb⟩
  · go_wp2_with fail
    go_ret
    exact ⟨ret_int (by unfold wd; rw [h1]; rfl), hb2⟩
end Go.Proofs.YtbmcmcdgdhabaaaDoor
