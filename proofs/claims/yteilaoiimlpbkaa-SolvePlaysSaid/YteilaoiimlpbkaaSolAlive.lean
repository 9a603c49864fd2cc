/- The document's examples of layer 9 hold: alive returns true, in every memory. -/
import Derived.Test.YteilaoiimlpbkaaSolShare
namespace Go.Proofs.Yteilaoiimlpbkaa
open Go.RowKit
attribute [local go_sem ↓ 10000] run_mn run_mx
/-- sizes that are written out -/
def szCells (L : List sl.Sz) : List Value := L.flatMap fun s => [.int .i64 s.k, .int .i64 s.n]
theorem szCells_at (L : List sl.Sz) : ∀ k, k < L.length → (szCells L)[k * 2]? = some (.int .i64 (L.getD k sl.z0).k) ∧ (szCells L)[k * 2 + 1]? = some (.int .i64 (L.getD k sl.z0).n) := by
  induction L with
  | nil => intro k hk; simp at hk
  | cons s L ih =>
    intro k hk
    cases k with
    | zero => exact ⟨rfl, rfl⟩
    | succ k =>
      have h := ih k (by simpa using hk)
      rw [show (k + 1) * 2 = k * 2 + 1 + 1 by omega]
      exact h
theorem SzIn.new (w : World) (T : TypeId) (L : List sl.Sz) (cs : Array Value) (hcs : cs = (szCells L).toArray) (hl : L.length ≤ 1000) : SzIn (w.alloc (.cells cs T)) (some ⟨w.heap.size, 0, none⟩) L.length L.length L := by
  subst hcs
  refine ⟨rfl, Nat.le_refl _, by unfold maxLen; omega, .inr ⟨w.heap.size, 0, rfl, by simp, fun k hk => ?_⟩⟩
  obtain ⟨h1, h2⟩ := szCells_at L k hk
  rw [cell_fresh, cell_fresh, Nat.zero_add]
  exact ⟨by simpa using h1, by simpa using h2⟩
/-- a call of Share whose answer is known -/
theorem share_then (t : Int) (o : Option Addr) (n cap : Nat) (L : List sl.Sz) (w : World) (hs : SzIn w o n cap L) (zs : List Int) (c : Int) (hz : sl.share t L = zs) (hc : sl.err t L = c) :
    Calls Try.prog 8 #[.int .i64 t, .slice o n cap] w fun e w' => ∃ ao ac, e = .returned (.tuple #[.slice ao zs.length ac, .int .i64 c]) ∧ Ints w' ao zs.length ac zs ∧ Below w.heap.size w w' := by
  subst hz hc
  refine (share_any t o n cap L w hs).mono ?_
  rintro e w' ⟨V, rfl, hr, hb⟩
  obtain ⟨ao, ac, rfl, hi⟩ := Ints.of_own hr
  exact ⟨ao, ac, rfl, hi, hb⟩
/-- a call of Share on sizes that are written out -/
theorem share_lit (t : Int) (L : List sl.Sz) (zs : List Int) (c : Int) (hz : sl.share t L = zs) (hc : sl.err t L = c) (w0 : World) (a : Nat) (ha : a = w0.heap.size) (m : Nat) (hm : m = L.length) (cs : Array Value) (hcs : cs = (szCells L).toArray) (hl : L.length ≤ 1000) :
    Calls Try.prog 8 #[.int .i64 t, .slice (some ⟨a, 0, none⟩) m m] (w0.alloc (.cells cs 33)) fun e w' => ∃ ao ac, e = .returned (.tuple #[.slice ao zs.length ac, .int .i64 c]) ∧ Ints w' ao zs.length ac zs ∧ Below w0.heap.size w0 w' := by
  subst ha hm
  refine (share_then t _ _ _ L _ (SzIn.new w0 33 L cs hcs hl) zs c hz hc).mono ?_
  rintro e w' ⟨ao, ac, rfl, hi, hb⟩
  exact ⟨ao, ac, rfl, hi, ((Below.refl _ w0).alloc (Nat.le_refl _) _).trans (hb.mono (by simp))⟩
theorem least_lit (L : List sl.Sz) (c : Int) (hc : sl.least L = c) (w0 : World) (a : Nat) (ha : a = w0.heap.size) (m : Nat) (hm : m = L.length) (cs : Array Value) (hcs : cs = (szCells L).toArray) (hl : L.length ≤ 1000) :
    Calls Try.prog 11 #[.slice (some ⟨a, 0, none⟩) m m] (w0.alloc (.cells cs 33)) fun e w' => e = .returned (.int .i64 c) ∧ Below w0.heap.size w0 w' := by
  subst ha hm hc
  refine (least_any _ _ _ L _ (SzIn.new w0 33 L cs hcs hl)).mono ?_
  rintro e w' ⟨rfl, hb⟩
  exact ⟨rfl, ((Below.refl _ w0).alloc (Nat.le_refl _) _).trans (hb.mono (by simp))⟩
/-- SameInts on numbers that are written out -/
theorem same_lit (o : Option Addr) (n cap : Nat) (xs : List Int) (w0 : World) (hx : Ints w0 o n cap xs) (a : Nat) (ha : a = w0.heap.size) (m : Nat) (cs : Array Value) (hcs : cs = (xs.map (Value.int .i64)).toArray) (hm : m = xs.length) (hl : xs.length ≤ 1000) :
    Calls Try.prog 10 #[.slice o n cap, .slice (some ⟨a, 0, none⟩) m m] (w0.alloc (.cells cs 3)) fun e w' => e = .returned (.bool true) ∧ Below w0.heap.size w0 w' := by
  subst ha hm hcs
  have hb := (Below.refl w0.heap.size w0).alloc (Nat.le_refl _) (.cells (xs.map (Value.int .i64)).toArray 3)
  refine (same_any o n cap xs _ _ _ xs _ (hx.below hb) (Ints.new w0 3 xs hl)).mono ?_
  rintro e w' ⟨rfl, j, rfl⟩
  exact ⟨by simp, below_drewN hb j⟩
/-- a size in a box -/
def FixAt (w : World) (b : Nat) : Prop := w.heap[b]? = some (.cells #[.int .i64 1, .int .i64 3] 33 (0, 0))
theorem FixAt.cells {w : World} {b : Nat} (h : FixAt w b) : w.cell? ⟨b, 0, none⟩ = some (.int .i64 1) ∧ w.cell? ⟨b, 1, none⟩ = some (.int .i64 3) ∧ b < w.heap.size := by
  have hlt := (Array.getElem?_eq_some_iff.1 h).1
  unfold FixAt at h
  refine ⟨?_, ?_, hlt⟩ <;> simp [World.cell?, h]
theorem FixAt.below {w w' : World} {b : Nat} (h : FixAt w b) (hb : Below w.heap.size w w') : FixAt w' b := (hb.block b h.cells.2.2).trans h
theorem sh1 : sl.share 10 [⟨1, 3⟩, ⟨0, 0⟩, ⟨0, 0⟩] = [3, 4, 3] ∧ sl.err 10 [⟨1, 3⟩, ⟨0, 0⟩, ⟨0, 0⟩] = 0 := by decide
theorem sh2 : sl.share 10 [⟨2, 50⟩, ⟨2, 30⟩] = [5, 5] ∧ sl.err 10 [⟨2, 50⟩, ⟨2, 30⟩] = 0 := by decide
theorem sh3 : sl.share 4 [⟨1, 3⟩, ⟨1, 3⟩] = [3, 1] ∧ sl.err 4 [⟨1, 3⟩, ⟨1, 3⟩] = 0 := by decide
theorem sh4 : sl.share 2 [⟨0, 0⟩, ⟨0, 0⟩, ⟨0, 0⟩] = [] ∧ sl.err 2 [⟨0, 0⟩, ⟨0, 0⟩, ⟨0, 0⟩] = 90 := by decide
theorem le5 : sl.least [⟨1, 3⟩, ⟨0, 0⟩] = 4 ∧ sl.errOf ⟨1, 3⟩ = 0 := by decide
set_option maxRecDepth 100000 in
set_option maxHeartbeats 3200000 in
theorem alive_any (w : World) : Calls Try.prog 7 #[] w fun e w' => e = .returned (.bool true) ∧ Below w.heap.size w w' := by
  have HB0 := Lib.hid ((Below.refl w.heap.size w).alloc (Nat.le_refl _) (.cells #[.int .i64 1, .int .i64 3] 33))
  have HF0 : Hid (FixAt (w.alloc (.cells #[.int .i64 1, .int .i64 3] 33)) w.heap.size) := Lib.hid (World.alloc_heap_new w _)
  have HS1 := Lib.hid (share_lit 10 [⟨1, 3⟩, ⟨0, 0⟩, ⟨0, 0⟩] _ _ sh1.1 sh1.2 (w.alloc (.cells #[.int .i64 1, .int .i64 3] 33)) (w.heap.size + 1) (by simp) 3 rfl #[.int .i64 1, .int .i64 3, .int .i64 0, .int .i64 0, .int .i64 0, .int .i64 0] rfl (by decide))
  go_enter Try.func7, Try.ntmps7
  go_wp2_with fail
  refine HS1.out.mono ?_
  rintro e w1 ⟨ao1, ac1, rfl, hi1, hb1⟩
  have HB1 := Lib.hid (HB0.out.trans (hb1.mono HB0.out.size))
  have HF1 := Lib.hid (HF0.out.below hb1)
  have HI1 := Lib.hid hi1
  clear hi1 hb1 HS1 HB0 HF0
  have HS2 := Lib.hid (share_lit 10 [⟨2, 50⟩, ⟨2, 30⟩] _ _ sh2.1 sh2.2 w1 _ rfl 2 rfl #[.int .i64 2, .int .i64 50, .int .i64 2, .int .i64 30] rfl (by decide))
  go_wp2_with fail
  refine HS2.out.mono ?_
  rintro e w2 ⟨ao2, ac2, rfl, hi2, hb2⟩
  have HB2 := Lib.hid (HB1.out.trans (hb2.mono HB1.out.size))
  have HF2 := Lib.hid (HF1.out.below hb2)
  have HI12 := Lib.hid (HI1.out.below hb2)
  have HI2 := Lib.hid hi2
  clear hi2 hb2 HS2 HB1 HF1 HI1
  have HS3 := Lib.hid (share_lit 4 [⟨1, 3⟩, ⟨1, 3⟩] _ _ sh3.1 sh3.2 w2 _ rfl 2 rfl #[.int .i64 1, .int .i64 3, .int .i64 1, .int .i64 3] rfl (by decide))
  obtain ⟨c0, c1, u0⟩ := HF2.out.cells
  go_wp2_with fail
  refine HS3.out.mono ?_
  rintro e w3 ⟨ao3, ac3, rfl, hi3, hb3⟩
  have HB3 := Lib.hid (HB2.out.trans (hb3.mono HB2.out.size))
  have HF3 := Lib.hid (HF2.out.below hb3)
  have HI13 := Lib.hid (HI12.out.below hb3)
  have HI23 := Lib.hid (HI2.out.below hb3)
  have HI3 := Lib.hid hi3
  clear hi3 hb3 HS3 HB2 HF2 HI12 HI2 c0 c1 u0
  have HS4 := Lib.hid (share_lit 2 [⟨0, 0⟩, ⟨0, 0⟩, ⟨0, 0⟩] _ _ sh4.1 sh4.2 w3 _ rfl 3 rfl #[.int .i64 0, .int .i64 0, .int .i64 0, .int .i64 0, .int .i64 0, .int .i64 0] rfl (by decide))
  go_wp2_with fail
  refine HS4.out.mono ?_
  rintro e w4 ⟨ao4, ac4, rfl, hi4, hb4⟩
  have HB4 := Lib.hid (HB3.out.trans (hb4.mono HB3.out.size))
  have HF4 := Lib.hid (HF3.out.below hb4)
  have HI14 := Lib.hid (HI13.out.below hb4)
  have HI24 := Lib.hid (HI23.out.below hb4)
  have HI34 := Lib.hid (HI3.out.below hb4)
  clear hi4 hb4 HS4 HB3 HF3 HI13 HI23 HI3
  have HE1 := Lib.hid (same_lit _ _ _ _ w4 HI14.out _ rfl 3 #[.int .i64 3, .int .i64 4, .int .i64 3] rfl rfl (by decide))
  go_wp2_with fail
  refine HE1.out.mono ?_
  rintro e w5 ⟨rfl, hb5⟩
  have HB5 := Lib.hid (HB4.out.trans (hb5.mono HB4.out.size))
  have HF5 := Lib.hid (HF4.out.below hb5)
  have HI25 := Lib.hid (HI24.out.below hb5)
  have HI35 := Lib.hid (HI34.out.below hb5)
  clear hb5 HE1 HB4 HF4 HI14 HI24 HI34
  have HE2 := Lib.hid (same_lit _ _ _ _ w5 HI25.out _ rfl 2 #[.int .i64 5, .int .i64 5] rfl rfl (by decide))
  go_wp2_with fail
  refine HE2.out.mono ?_
  rintro e w6 ⟨rfl, hb6⟩
  have HB6 := Lib.hid (HB5.out.trans (hb6.mono HB5.out.size))
  have HF6 := Lib.hid (HF5.out.below hb6)
  have HI36 := Lib.hid (HI35.out.below hb6)
  clear hb6 HE2 HB5 HF5 HI25 HI35
  have HE3 := Lib.hid (same_lit _ _ _ _ w6 HI36.out _ rfl 2 #[.int .i64 3, .int .i64 1] rfl rfl (by decide))
  go_wp2_with fail
  refine HE3.out.mono ?_
  rintro e w7 ⟨rfl, hb7⟩
  have HB7 := Lib.hid (HB6.out.trans (hb7.mono HB6.out.size))
  have HF7 := Lib.hid (HF6.out.below hb7)
  clear hb7 HE3 HB6 HF6 HI36
  obtain ⟨c0, c1, u0⟩ := HF7.out.cells
  have HLE := Lib.hid (least_lit [⟨1, 3⟩, ⟨0, 0⟩] _ le5.1 w7 _ rfl 2 rfl #[.int .i64 1, .int .i64 3, .int .i64 0, .int .i64 0] rfl (by decide))
  go_wp2_with fail
  refine HLE.out.mono ?_
  rintro e w8 ⟨rfl, hb8⟩
  have HB8 := Lib.hid (HB7.out.trans (hb8.mono HB7.out.size))
  have HF8 := Lib.hid (HF7.out.below hb8)
  clear hb8 HLE HB7 HF7 c0 c1 u0
  obtain ⟨c0, c1, u0⟩ := HF8.out.cells
  have HCK := Lib.hid (check_any 1 3 w8)
  rw [le5.2] at HCK
  go_wp2_with fail
  refine HCK.out.mono ?_
  rintro e w9 ⟨rfl, hb9⟩
  have HB9 := Lib.hid (HB8.out.trans (hb9.mono HB8.out.size))
  clear hb9
  go_wp2_with fail
  go_ret
  exact ⟨rfl, HB9.out⟩
end Go.Proofs.Yteilaoiimlpbkaa
