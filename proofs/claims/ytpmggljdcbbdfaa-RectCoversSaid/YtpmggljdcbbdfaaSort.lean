/- What slices.SortFunc does with rectangles (by their left ends), and slices.Sort with numbers. -/
import Derived.Test.YtpmggljdcbbdfaaCovd
import Derived.Test.YtpmggljdcbbdfaaShelf
import Derived.Sort.OwnSortedInts
namespace Go.Proofs.Ytpmggljdcbbdfaa
open Go.RowKit rm Go.Sort Go.Shelf Go.Lib

instance : Inhabited RR := ⟨zero⟩

/-- a row of rectangles, in the library's words -/
theorem holds_of_row {w : World} {g : Nat} {L : List RR} (h : RowL w g L) : HoldsK encR 4 w g 0 L.toArray := by
  intro j hj
  rw [size_flatK] at hj
  have hj' : j < L.length * 4 := by simpa using hj
  have hlt : j / 4 < L.length := by omega
  rw [get_flatK _ _ _ _ hj]
  have hq := h (j / 4) _ (List.getElem?_eq_getElem hlt)
  have e1 : L.toArray[j / 4]! = L[j / 4] := by simp [hlt]
  rw [e1, Nat.zero_add]
  generalize hq0 : L[j / 4] = q at hq
  obtain ⟨k0, k1, k2, k3, f0, f1, f2, f3⟩ := hq
  have : j % 4 = 0 ∨ j % 4 = 1 ∨ j % 4 = 2 ∨ j % 4 = 3 := by omega
  rcases this with hm | hm | hm | hm
  · rw [hm, show j = j / 4 * 4 by omega]; exact ⟨k0, f0⟩
  · rw [hm, show j = j / 4 * 4 + 1 by omega]; exact ⟨k1, f1⟩
  · rw [hm, show j = j / 4 * 4 + 2 by omega]; exact ⟨k2, f2⟩
  · rw [hm, show j = j / 4 * 4 + 3 by omega]; exact ⟨k3, f3⟩
theorem row_of_holds {w : World} {g : Nat} {d : Array RR} (h : HoldsK encR 4 w g 0 d) : RowL w g d.toList := by
  intro t r ht
  rw [Array.getElem?_toList] at ht
  obtain ⟨hlt, hr⟩ := Array.getElem?_eq_some_iff.1 ht
  have e : d[t]! = r := by rw [getElem!_pos d t hlt]; exact hr
  have hc := fun c (hc : c < 4) => h.cell (i := t) (c := c) hlt hc
  rw [e] at hc
  have h0 := hc 0 (by decide); have h1 := hc 1 (by decide); have h2 := hc 2 (by decide); have h3 := hc 3 (by decide)
  simp only [Nat.zero_add, Nat.add_zero] at h0 h1 h2 h3
  exact ⟨h0.1, h1.1, h2.1, h3.1, h0.2, h1.2, h2.2, h3.2⟩

set_option maxHeartbeats 1000000 in
theorem cmp_any (x y : RR) (W : World) : Calls Try.prog 45 #[.agg (encR x).toArray, .agg (encR y).toArray] W fun e w' => e = .returned (.int .i64 (Lib.compareInt x.x y.x)) ∧ ∃ q os', w' = grow (W.drewN q) os' := by
  have hcon := fun W' => Try.cmp_Compare_int x.x y.x W'
  generalize Lib.compareInt x.x y.x = r at hcon ⊢
  unfold encR
  go_enter Try.func45, Try.ntmps45
  go_wp2_with (go_at_call 46; refine (hcon _).mono ?_; rintro e w' ⟨rfl, rfl⟩)
  go_ret
  exact ⟨rfl, 0, _, by rw [alloc_eq_grow, alloc_eq_grow, grow_grow]; rfl⟩

theorem ltX (x y : RR) : ltOf (fun x y : RR => Lib.compareInt x.x y.x) x y = decide (x.x < y.x) := by
  unfold ltOf Lib.compareInt
  by_cases h1 : x.x < y.x
  · simp [h1]
  · by_cases h2 : y.x < x.x <;> simp [h1, h2]
theorem swoX : SWO (ltOf fun x y : RR => Lib.compareInt x.x y.x) where
  irrefl x := by rw [ltX]; simp
  trans x y z h1 h2 := by rw [ltX] at *; simp at *; omega
  ntrans x y z h1 h2 := by rw [ltX] at *; simp at *; omega

theorem gb_sortK {w : World} {g n : Nat} {os : Array Obj} (d : Array RR) : w.grownBy (sortWorldK encR 4 w g 0 n d os) (some g) := by
  unfold sortWorldK putRowK
  refine ⟨rfl, rfl, rfl, by simp, fun k hk hne => ?_⟩
  rw [heap_grow_old _ _ (by simpa using hk)]
  have : g ≠ k := fun e => hne (by rw [e])
  simp [putRow, mapBlock, Sort.ahead, Array.getElem?_modify, this]

theorem sortRects_any (g cap : Nat) (L : List RR) (w : World) (hL : RowL w g L) (hg : g < w.heap.size) (hlen : L.length ≤ 65536) :
    Calls Try.prog 44 #[.slice (some ⟨g, 0, none⟩) L.length cap, .func (.func 45) #[] #[]] w fun e w' =>
      e = .returned (.tuple #[]) ∧ ∃ L' : List RR, L'.Perm L ∧ L'.Pairwise (fun a b => a.x ≤ b.x) ∧ RowL w' g L' ∧ w.grownBy w' (some g) := by
  have eg : ∀ args w, (callFunc 45 args).run Try.prog w = .ok (.enter 45 args) w := enters_of Try.func45 (by kernel_rfl) rfl
  have hH := holds_of_row hL
  have hcon := AnyQ.slices_SortFunc Try.laysSlF06_f44 4 Try.isAgg23 Try.sizeOf23 encR (fun _ => rfl) (fun r v hv => encR_one r v hv) (fun x y => Lib.compareInt x.x y.x) swoX 45 #[] g 0 cap L.toArray w eg (fun _ _ _ _ x y => cmp_any x y _) hH hg (by simp; omega)
  change Calls Try.prog 44 _ _ _ at hcon
  simp only [List.size_toArray] at hcon
  refine hcon.mono ?_
  rintro e w' ⟨rfl, d', n, os, ⟨hs, _, hp⟩, hsorted, rfl⟩
  have hs' : d'.size = L.length := by simpa using hs
  refine ⟨rfl, d'.toList, ?_, ?_, ?_, gb_sortK d'⟩
  · have e1 : d'.extract 0 L.length = d' := by rw [← hs']; simp
    have e2 : L.toArray.extract 0 L.length = L.toArray := by have : L.length = L.toArray.size := by simp
                                                             rw [this]; simp only [Array.extract_size]
    rw [e1, e2] at hp
    simpa using hp
  · rw [List.pairwise_iff_getElem]
    intro i j hi hj hij
    have hi' : i < d'.size := by simpa using hi
    have hj' : j < d'.size := by simpa using hj
    have := hsorted i j (Nat.zero_le _) hij (by omega)
    rw [ltX, getElem!_pos d' i hi', getElem!_pos d' j hj'] at this
    simp only [Array.getElem_toList]
    simpa using this
  · exact row_of_holds (holdsK_grow encR 4 _ os g 0 d' (by simpa [putRowK] using hg) (holdsK_putRowK encR 4 _ g 0 L.toArray d' (holdsK_ahead encR 4 w n g 0 _ hH) (by simpa using hs')))

/-- a row of numbers in block g -/
def RowZ (w : World) (g : Nat) (zs : List Int) : Prop := ∀ (t : Nat) z, zs[t]? = some z → w.cell? ⟨g, t, none⟩ = some (.int .i64 z) ∧ w.frozen? ⟨g, t, none⟩ = false
theorem RowZ.keep {w w' : World} {g : Nat} {zs : List Int} (H : RowZ w g zs) (h : w'.heap[g]? = w.heap[g]?) : RowZ w' g zs := fun t z ht =>
  ⟨(World.cell?_of_block h).trans (H t z ht).1, (World.frozen?_of_block h).trans (H t z ht).2⟩
theorem holdsZ {w : World} {g : Nat} {zs : List Int} (h : RowZ w g zs) : Holds (Value.int .i64) w g 0 zs.toArray := by
  intro j hj
  have hj' : j < zs.length := by simpa using hj
  have := h j _ (List.getElem?_eq_getElem hj')
  simpa [hj'] using this
theorem rowZ_of {w : World} {g : Nat} {zs : List Int} (h : Holds (Value.int .i64) w g 0 zs.toArray) : RowZ w g zs := by
  intro t z ht
  obtain ⟨hlt, rfl⟩ := List.getElem?_eq_some_iff.1 ht
  have := h t (by simpa using hlt)
  simpa [hlt] using this
theorem sortInts_any (g cap : Nat) (zs : List Int) (w : World) (hZ : RowZ w g zs) (hg : g < w.heap.size) (hlen : zs.length ≤ 65536) :
    Calls Try.prog 47 #[.slice (some ⟨g, 0, none⟩) zs.length cap] w fun e w' =>
      e = .returned (.tuple #[]) ∧ RowZ w' g (zs.mergeSort fun x y => decide (x ≤ y)) ∧ w.grownBy w' (some g) := by
  refine (Try.slices_Sort_int g 0 cap zs w (holdsZ hZ) hg (by omega)).mono ?_
  rintro e w' ⟨rfl, n, os, rfl⟩
  refine ⟨rfl, rowZ_of (holds_grow _ _ os g 0 _ (by simpa using hg) (holds_putRow _ _ g 0 zs.toArray _ (holds_ahead _ w n g 0 _ (holdsZ hZ)) (by simp))), grownBy_sortedI _⟩
end Go.Proofs.Ytpmggljdcbbdfaa
