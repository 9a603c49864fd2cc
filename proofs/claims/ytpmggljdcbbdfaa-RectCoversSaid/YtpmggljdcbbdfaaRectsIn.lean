/- A slice of rectangles that comes in, and what Cover answers for it. -/
import Derived.Test.YtpmggljdcbbdfaaMath7
import Derived.Test.YtpmggljdcbbdfaaCutv
import Derived.Deep.Slices
import Derived.Shelf.SlSortCmp.NoneTotal
import Derived.Shelf.Slices.In.SortNone
namespace Go.Proofs.Ytpmggljdcbbdfaa
open Go.ChangeShapes Go.WideShapes Go.ChangeAt Go.RowKit Go.Joins Go.Deep rm
attribute [local go_sem ↓] Go.wp_at_zero Go.wp_at_succ
attribute [local go_sem ↓ 10000] run_mn run_mx

/-- rectangles in the cells of a slice that came in -/
structure SliceR (w : World) (o : Option Addr) (n cap : Nat) (L : List RR) : Prop where
  len : L.length = n
  le : n ≤ cap
  max : cap ≤ maxLen
  at_ : (cap = 0 ∧ n = 0 ∧ L = []) ∨ ∃ b off, o = some ⟨b, off, none⟩ ∧ b < w.heap.size ∧ RowC w b off L
theorem SliceR.below {w w' : World} {o : Option Addr} {n cap : Nat} {L : List RR} (H : SliceR w o n cap L) {B : Nat} (hb : Below B w w') (hB : w.heap.size ≤ B) : SliceR w' o n cap L :=
  ⟨H.len, H.le, H.max, H.at_.imp id fun ⟨b, off, h1, h2, h3⟩ => ⟨b, off, h1, Nat.lt_of_lt_of_le h2 hb.size, h3.below hb (Nat.lt_of_lt_of_le h2 hB)⟩⟩

section
variable {H : Type} {enc : TypeId × Value → H}
theorem rect_cells {W : World} {base : Nat} {sp : Nat → Bool} {held : Bool} {fuel : Nat} {cs : List Value} {x : DataW H × List MemPlace} (h : DataW.trod enc Try.prog W base sp held fuel 23 cs = some x) : ∃ r : RR, cs = encR r := by
  obtain ⟨y0, y1, y2, y3, n, _, hl, h0, h1, h2, h3⟩ := trod_struct4 Try.underlying23 h
  rw [cells23] at hl
  match cs, hl with
  | [c0, c1, c2, c3], _ =>
    obtain ⟨a0, e0, _⟩ := DataW.trod_int Try.underlying3 h0
    obtain ⟨a1, e1, _⟩ := DataW.trod_int Try.underlying3 h1
    obtain ⟨a2, e2, _⟩ := DataW.trod_int Try.underlying3 h2
    obtain ⟨a3, e3, _⟩ := DataW.trod_int Try.underlying3 h3
    simp [cells3] at e0 e1 e2 e3
    subst e0 e1 e2 e3
    exact ⟨⟨a0, a1, a2, a3⟩, rfl⟩
/-- a slice of rectangles among the arguments -/
theorem open_sliceR {W : World} {base b0 : Nat} {held : Bool} {r : Reach} {v : Value} {d : DataW H} {p : List MemPlace} (hv : Value.okWide Try.prog W r b0 36 v) (h : DataW.Trod enc Try.prog W base (fun _ => true) held 36 v d p) :
    ∃ o n cap L, v = .slice o n cap ∧ SliceR W o n cap L := by
  obtain ⟨a, n, cap, rfl⟩ := okWide_slice Try.underlying36 hv
  obtain ⟨fuel, hf⟩ := h
  rcases open_slice Try.underlying36 hf with ⟨hcs, hx⟩ | ⟨a', len, cap', m, k, D, Pl, hcs, _, hl, hm, hmm, hx, hall⟩
  · simp [Value.cells] at hcs
    obtain ⟨rfl, rfl, rfl⟩ := hcs
    exact ⟨none, 0, 0, [], rfl, rfl, Nat.le_refl _, Nat.zero_le _, .inl ⟨rfl, rfl, rfl⟩⟩
  · simp [Value.cells] at hcs
    obtain ⟨rfl, rfl, rfl⟩ := hcs
    simp only [if_true] at hmm
    subst hmm
    rw [cells23] at hall
    by_cases h0 : m = 0
    · subst h0
      exact ⟨_, n, 0, [], rfl, by simp; omega, hl, hm, .inl ⟨rfl, by omega, rfl⟩⟩
    · obtain ⟨R, hR⟩ := choose_lt (α := RR) (n := m) (p := fun i r => ∀ j, j < 4 → W.cell? ((a'.add (i * 4)).add j) = (encR r)[j]?) (fun i hi => by
        obtain ⟨cs', h1, h2⟩ := hall i hi
        obtain ⟨r, rfl⟩ := rect_cells h2
        exact ⟨r, (World.cells?_some h1).2.2⟩)
      have hsp : ∃ b off, a' = ⟨b, off, none⟩ := by
        obtain ⟨b, off, spot⟩ := a'
        have := World.cell?_spot (v := .int .i64 (R 0).x) (by rw [hR 0 (by omega) 0 (by decide)]; rfl)
        have hspot : spot = none := by simpa [Addr.add] using this
        subst hspot
        exact ⟨b, off, rfl⟩
      obtain ⟨b, off, rfl⟩ := hsp
      have hc : ∀ i, i < m → ∀ j, j < 4 → W.cell? ⟨b, off + i * 4 + j, none⟩ = (encR (R i))[j]? := fun i hi j hj => by
        rw [← hR i hi j hj, Go.WideShapes.add_plain, Go.WideShapes.add_plain]
      refine ⟨_, n, m, (List.range n).map R, rfl, by simp, hl, hm, .inr ⟨b, off, rfl, ?_, ?_⟩⟩
      · exact cell_lt (a := ⟨b, off + 0 * 4 + 0, none⟩) (v := .int .i64 (R 0).x) (by rw [hc 0 (by omega) 0 (by decide)]; rfl)
      · intro t q ht
        rw [List.getElem?_map] at ht
        have htn : t < n := by
          rcases Nat.lt_or_ge t n with h' | h'
          · exact h'
          · rw [List.getElem?_eq_none (by simpa using h')] at ht; cases ht
        rw [List.getElem?_range htn] at ht
        simp only [Option.map_some, Option.some.injEq] at ht
        subst ht
        exact ⟨hc t (by omega) 0 (by decide), hc t (by omega) 1 (by decide), hc t (by omega) 2 (by decide), hc t (by omega) 3 (by decide)⟩
end

set_option maxHeartbeats 800000 in
theorem cover_nil (o : Option Addr) (cap : Nat) (w : World) :
    Calls Try.prog 29 #[.slice o 0 cap] w fun e w' => e = .returned (.int .i64 0) ∧ Below w.heap.size w w' := by
  have hm16 : mn 0 24 = 0 := by decide
  have hc0 : (0 : Int) ≤ (cap : Int) := by omega
  have hs1 := fun p c fv W => AnyF.slices_SortFunc_none Try.laysSlF06_f44 p c fv W
  have hs2 := fun p c W => Any.slices_Sort_int_none Try.lays189 p c W
  cases o
  all_goals
    go_enter Try.func29, Try.ntmps29
    go_wp2_with fail
    refine wp_loop_rounds 1 ?_; rw [rounds_succ]
    go_wp2_with fail
    refine Calls.mono (hs1 _ _ _ _) ?_
    rintro e w1 ⟨rfl, rfl⟩
    go_wp2_with fail
    refine Calls.mono (hs2 _ _ _) ?_
    rintro e w2 ⟨rfl, rfl⟩
    go_wp2_with fail
    refine wp_loop_rounds 1 ?_; rw [rounds_succ]
    go_wp2
    go_ret
    exact ⟨rfl, Below.refl _ _⟩

/-- how many cells a list of rectangles covers, as it counts -/
def covV (L : List RR) : Int := cells ((L.take 24).map clean)
theorem covV_nil : covV [] = 0 := by
  have h := cells_le [] (fun r hr => by simp at hr)
  have h0 : arS [] = 0 := rfl
  have h1 : covV [] = cells [] := by unfold covV; rw [List.take_nil, List.map_nil]
  rw [h1]
  omega
theorem ok_map (L : List RR) : ∀ r ∈ (L.take 24).map clean, Ok r := by
  intro r hr
  obtain ⟨q, _, rfl⟩ := List.mem_map.1 hr
  exact ok_clean q
theorem cover_v (o : Option Addr) (n cap : Nat) (L : List RR) (w : World) (hz : SliceR w o n cap L) :
    Calls Try.prog 29 #[.slice o n cap] w fun e w' => e = .returned (.int .i64 (covV L)) ∧ Below w.heap.size w w' := by
  have hmx := hz.max
  have hle := hz.le
  by_cases h0 : n = 0
  · subst h0
    obtain rfl : L = [] := List.eq_nil_of_length_eq_zero hz.len
    exact (cover_nil o cap w).mono fun e w' ⟨he, hb⟩ => ⟨by rw [he, covV_nil], hb⟩
  · rcases hz.at_ with ⟨_, h1, _⟩ | ⟨b, off, rfl, hb, hc⟩
    · exact absurd h1 h0
    · refine (cover_some b off n cap L w hc hb hz.len (by omega) hle (by unfold maxLen at hmx; omega)).mono fun e w' ⟨L', hp, hs, he, hbl⟩ => ⟨?_, hbl⟩
      have hlen : ((L.take 24).map clean).length = min n 24 := by rw [List.length_map, List.length_take, hz.len]; omega
      have := cover_cells ((L.take 24).map clean) L' (ok_map L) hp hs (by intro hh; rw [hh] at hlen; simp at hlen; omega)
      rw [hlen] at this
      rw [he, this]
      rfl
end Go.Proofs.Ytpmggljdcbbdfaa
