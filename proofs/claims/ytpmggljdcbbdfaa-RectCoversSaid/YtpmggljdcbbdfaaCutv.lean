/- What package rect's Cut answers for any slice of numbers that comes in. -/
import Derived.Test.YtpmggljdcbbdfaaCalls
import Derived.OpenShut
namespace Go.Proofs.Ytpmggljdcbbdfaa
open Go.ChangeShapes Go.WideShapes Go.ChangeAt Go.RowKit rm
attribute [local go_sem ↓] Go.wp_at_zero Go.wp_at_succ
attribute [local go_sem ↓ 10000] run_mn run_mx

/-- numbers in the cells of a slice that came in -/
structure SliceZ (w : World) (o : Option Addr) (n cap : Nat) (zs : List Int) : Prop where
  len : zs.length = n
  le : n ≤ cap
  max : cap ≤ maxLen
  at_ : (cap = 0 ∧ n = 0 ∧ zs = []) ∨ ∃ b off, o = some ⟨b, off, none⟩ ∧ b < w.heap.size ∧ ∀ k, k < n → w.cell? ⟨b, off + k, none⟩ = some (.int .i64 (zs.getD k 0))
theorem SliceZ.below {w w' : World} {o : Option Addr} {n cap : Nat} {zs : List Int} (H : SliceZ w o n cap zs) {B : Nat} (hb : Below B w w') (hB : w.heap.size ≤ B) : SliceZ w' o n cap zs :=
  ⟨H.len, H.le, H.max, H.at_.imp id fun ⟨b, off, h1, h2, h3⟩ => ⟨b, off, h1, Nat.lt_of_lt_of_le h2 hb.size, fun k hk => (hb.cell (p := ⟨b, off + k, none⟩) (Nat.lt_of_lt_of_le h2 hB)).trans (h3 k hk)⟩⟩
/-- rectangles in the cells of a slice that was made -/
def RowO (w : World) (o : Option Addr) (L : List RR) : Prop := L = [] ∨ ∃ g, o = some ⟨g, 0, none⟩ ∧ g < w.heap.size ∧ RowL w g L
theorem RowO.below {w w' : World} {o : Option Addr} {L : List RR} (H : RowO w o L) {B : Nat} (hb : Below B w w') (hB : w.heap.size ≤ B) : RowO w' o L :=
  H.imp id fun ⟨g, h1, h2, h3⟩ => ⟨g, h1, Nat.lt_of_lt_of_le h2 hb.size, h3.below hb (Nat.lt_of_lt_of_le h2 hB)⟩

set_option maxHeartbeats 400000 in
theorem cut_nil (x y ww h : Int) (o : Option Addr) (ac : Bool) (w : World) :
    Calls Try.prog 27 #[(.agg #[.int .i64 x, .int .i64 y, .int .i64 ww, .int .i64 h]), .slice o 0 0, .bool ac] w fun e w' =>
      e = .returned (.slice none 0 0) ∧ Below w.heap.size w w' := by
  cases o with
  | none => exact cut_none x y ww h ac w
  | some a =>
  have hm16 : mn ((0 : Nat) : Int) 16 = ((0 : Nat) : Int) := by unfold mn; omega
  have hm16' : mn 0 16 = 0 := by unfold mn; omega
  go_enter Try.func27, Try.ntmps27
  go_wp2_with fail
  refine (clean_any _ _ _ _ _).mono ?_
  rintro e w1 ⟨p, q, s, t, rfl, hc1, hb1⟩
  go_wp2_with fail
  refine wp_loop_rounds 1 ?_; rw [rounds_succ]
  go_wp2
  go_ret
  exact ⟨rfl, ((((Below.refl _ _).alloc (Nat.le_refl _) _).trans (hb1.mono (by simp))).alloc (by have := hb1.size; simp at this; omega) _)⟩

/-- the parts that a list of sizes makes -/
def partsV (x y ww h : Int) (zs : List Int) (ac : Bool) : List RR := cutL ac (cleanV x y ww h) (zs.take 16)
theorem partsV_length {x y ww h : Int} {zs : List Int} {n : Nat} (hn : zs.length = n) (ac : Bool) : (partsV x y ww h zs ac).length = min n 16 := by
  unfold partsV; rw [cutL_length, List.length_take, hn]; omega
theorem cut_v (x y ww h : Int) (o : Option Addr) (n cap : Nat) (zs : List Int) (ac : Bool) (w : World) (hz : SliceZ w o n cap zs) :
    Calls Try.prog 27 #[(.agg #[.int .i64 x, .int .i64 y, .int .i64 ww, .int .i64 h]), .slice o n cap, .bool ac] w fun e w' =>
      ∃ o' cap', e = .returned (.slice o' (min n 16) cap') ∧ RowO w' o' (partsV x y ww h zs ac) ∧ Below w.heap.size w w' := by
  rcases hz.at_ with ⟨rfl, rfl, rfl⟩ | ⟨b, off, rfl, hb, hc⟩
  · exact (cut_nil x y ww h o ac w).mono fun e w' ⟨he, hbl⟩ => ⟨none, 0, he, .inl rfl, hbl⟩
  · refine (cut_some x y ww h b off n cap zs ac w hc hb hz.len hz.le).mono fun e w' ⟨v, he, ho, hbl⟩ => ?_
    have hl := partsV_length (x := x) (y := y) (ww := ww) (h := h) hz.len ac
    by_cases h0 : min n 16 = 0
    · rcases ho.2 with ⟨hv, _⟩ | ⟨g, cap', cur, hv, _⟩
      · subst hv
        exact ⟨none, 0, by rw [he, h0], .inl (List.eq_nil_of_length_eq_zero (hl.trans h0)), hbl⟩
      · subst hv
        exact ⟨_, cap', he, .inl (List.eq_nil_of_length_eq_zero (hl.trans h0)), hbl⟩
    · obtain ⟨g, cap', rfl, _, hlt⟩ := ho.form (by omega)
      refine ⟨_, cap', he, .inr ⟨g, rfl, hlt, ?_⟩, hbl⟩
      refine row_of_own (cap := cap') (base := w.heap.size) (e := 23) ?_
      rw [hl]
      exact ho

theorem cell_lt {W : World} {a : Addr} {v : Value} (h : W.cell? a = some v) : a.block < W.heap.size := by
  rcases Nat.lt_or_ge a.block W.heap.size with h' | h'
  · exact h'
  · simp [World.cell?, Array.getElem?_eq_none h'] at h

section
variable {H : Type} {enc : TypeId × Value → H}
theorem cells3 : Try.prog.cellsOf 3 = 1 := by kernel_rfl
/-- a slice of numbers among the arguments -/
theorem open_sliceZ {W : World} {base b0 : Nat} {held : Bool} {r : Reach} {v : Value} {d : DataW H} {p : List MemPlace} (hv : Value.okWide Try.prog W r b0 32 v) (h : DataW.Trod enc Try.prog W base (fun _ => true) held 32 v d p) :
    ∃ o n cap zs, v = .slice o n cap ∧ SliceZ W o n cap zs := by
  obtain ⟨a, n, cap, rfl⟩ := okWide_slice Try.underlying32 hv
  obtain ⟨fuel, hf⟩ := h
  rcases open_ints Try.underlying32 Try.underlying3 cells3 hf with ⟨hcs, hx⟩ | ⟨a', len, cap', zs, hcs, _, hl, hm, hzl, hx, hcell, hwz⟩
  · simp [Value.cells] at hcs
    obtain ⟨rfl, rfl, rfl⟩ := hcs
    exact ⟨none, 0, 0, [], rfl, rfl, Nat.le_refl _, Nat.zero_le _, .inl ⟨rfl, rfl, rfl⟩⟩
  · simp [Value.cells] at hcs
    obtain ⟨rfl, rfl, rfl⟩ := hcs
    simp only [if_true] at hzl
    refine ⟨_, n, cap, zs.take n, rfl, by rw [List.length_take]; omega, hl, hm, ?_⟩
    by_cases h0 : cap = 0
    · exact .inl ⟨h0, by omega, by rw [show n = 0 by omega]; rfl⟩
    · right
      obtain ⟨b, off, rfl, hat⟩ := ints_at hcell (by omega)
      refine ⟨b, off, rfl, (cell_lt (hat 0 (by omega))), fun k hk => ?_⟩
      rw [hat k (by omega)]
      simp only [List.getD, List.getElem?_take, if_pos hk]
end
end Go.Proofs.Ytpmggljdcbbdfaa
