/- The document's bus: New, Is, Get (its slots as cells, what they lead to is left open). -/
import Derived.Test.YtgegphciaejkiaaBuAlive
namespace Go.Proofs.Ytgegphciaejkiaa
open Go.RowKit
/-- a slot of the document's: is it open, where its kinds and its queue lie, how many were dropped -/
structure RSl where
  on : Bool
  ko : Option Addr
  (kn kc : Nat)
  qo : Option Addr
  (qn qc : Nat)
  dr : Int
namespace RSl
def zero : RSl := ⟨false, none, 0, 0, none, 0, 0, 0⟩
abbrev ks (s : RSl) : Value := .slice s.ko s.kn s.kc
abbrev qu (s : RSl) : Value := .slice s.qo s.qn s.qc
abbrev val (s : RSl) : Value := .agg #[.bool s.on, s.ks, s.qu, .int .i64 s.dr]
def cells (s : RSl) : List Value := [.bool s.on, s.ks, s.qu, .int .i64 s.dr]
end RSl
def rsC (R : Nat → RSl) : List Value := (R 0).cells ++ ((R 1).cells ++ ((R 2).cells ++ (R 3).cells))
abbrev RB (w : World) (V : Value) (R : Nat → RSl) : Prop := RowIn w (fun _ => True) V 4 4 (rsC R)
def rget (R : Nat → RSl) (p : Int) : RSl := if 1 ≤ p ∧ p ≤ 4 ∧ (R (p - 1).toNat).on = true then R (p - 1).toNat else RSl.zero
theorem RB.at_ {w : World} {o : Option Addr} {n cap : Nat} {R : Nat → RSl} (h : RB w (.slice o n cap) R) : n = 4 ∧ 4 ≤ cap ∧ ∃ b off, o = some ⟨b, off, none⟩ ∧ b < w.heap.size ∧ ∀ i, i < 4 → w.cell? ⟨b, off + i * 4, none⟩ = some (.bool (R i).on) ∧ w.cell? ⟨b, off + i * 4 + 1, none⟩ = some (R i).ks ∧ w.cell? ⟨b, off + i * 4 + 2, none⟩ = some (R i).qu ∧ w.cell? ⟨b, off + i * 4 + 3, none⟩ = some (.int .i64 (R i).dr) := by
  obtain ⟨h1, h2, -⟩ := RowIn.lens h
  obtain ⟨b, off, e, -, hb, hc⟩ := RowIn.at_ h 0 (by decide)
  refine ⟨h1, h2, b, off, e, hb, fun i hi => ?_⟩
  have hs : i = 0 ∨ i = 1 ∨ i = 2 ∨ i = 3 := by omega
  rcases hs with rfl | rfl | rfl | rfl <;> exact ⟨hc _ _ rfl, (by rw [Nat.add_assoc]; exact hc _ _ rfl), (by rw [Nat.add_assoc]; exact hc _ _ rfl), (by rw [Nat.add_assoc]; exact hc _ _ rfl)⟩
theorem infoRSl : (Try.prog.info? 39).map (fun i => (i.zero, i.size, i.bytes)) = some (some (Value.agg #[.bool false, .slice none 0 0, .slice none 0 0, .int .i64 0]), 4, 64) := by kernel_rfl
theorem run_make_rsl (W : World) : (Instr.makeSlice 26 (.int .i64 4) (.int .i64 4)).run Try.prog W = .ok (.slice (some ⟨W.heap.size, 0, none⟩) 4 4) (W.alloc (.cells (rsC fun _ => RSl.zero).toArray 39)) := by
  obtain ⟨i, hi, h1, h2, h3⟩ := info_parts infoRSl
  have := run_make (P := Try.prog) W 26 39 i _ Try.underlying26 hi h1 .i64 .i64 4 4 (by omega) (by omega) (by rw [h3]; decide) (by decide)
  have e : madeCells (Value.agg #[.bool false, .slice none 0 0, .slice none 0 0, .int .i64 0]).cells (Int.toNat 4 * 4) = (rsC fun _ => RSl.zero).toArray := by kernel_rfl
  rw [this, h2, e]
  rfl
set_option maxRecDepth 100000 in
theorem rnew_any (w : World) : Calls Try.prog 9 #[] w fun e w' => ∃ V, e = .returned (.agg #[V]) ∧ RowIn w' (fun k => w.heap.size ≤ k) V 4 4 (rsC fun _ => RSl.zero) ∧ Below w.heap.size w w' := by
  have km := run_make_rsl
  have h1 := heap_alloc_new w (.cells #[.slice (some ⟨w.heap.size + 1, 0, none⟩) 4 4] 28)
  have b1 := below_one w (.cells #[.slice (some ⟨w.heap.size + 1, 0, none⟩) 4 4] 28)
  have h2 := heap_alloc_new (w.alloc (.cells #[.slice (some ⟨w.heap.size + 1, 0, none⟩) 4 4] 28)) (.cells (rsC fun _ => RSl.zero).toArray 39)
  have b2 := below_one (w.alloc (.cells #[.slice (some ⟨w.heap.size + 1, 0, none⟩) 4 4] 28)) (.cells (rsC fun _ => RSl.zero).toArray 39)
  rw [World.size_alloc] at h2
  have HF := Lib.hid (And.intro ((b2.block _ (heap_lt h1)).trans h1) (And.intro h2 (b1.trans (b2.mono b1.size))))
  clear h1 b1 h2 b2
  go_enter Try.func9, Try.ntmps9
  go_wp2_with fail
  refine bodyPost_ret (results_cell_row rfl _ _ w.heap.size 28 _ (0, 0) _ rfl HF.out.1 Try.underlying28 rfl (by kernel_rfl)) rfl ?_
  refine ⟨_, rfl, ⟨_, 4, rfl, Nat.le_refl _, by decide, rfl, .inr ⟨w.heap.size + 1, 0, rfl, Nat.le_succ _, heap_lt HF.out.2.1, fun k v hv => ?_⟩⟩, HF.out.2.2⟩
  rw [Nat.zero_add, cell_of_heap HF.out.2.1]
  simpa using hv
set_option maxRecDepth 100000 in
theorem ris_any (V : Value) (R : Nat → RSl) (p : Int) (w : World) (h : RB w V R) : Calls Try.prog 27 #[.agg #[V], .int .i64 p] w fun e w' => e = .returned (.bool (decide (1 ≤ p ∧ p ≤ 4 ∧ (R (p - 1).toNat).on = true))) ∧ Below w.heap.size w w' := by
  have hbw := below_one w (.cells #[V] 28)
  obtain ⟨o, n, cap, rfl⟩ : ∃ o n cap, V = .slice o n cap := by
    obtain ⟨o, cap, e, -⟩ := h
    exact ⟨o, _, cap, e⟩
  obtain ⟨rfl, hcap, b, off, rfl, hb, hc⟩ := RB.at_ (RowIn.below h hbw)
  by_cases h1 : p < 1
  · rw [show decide (1 ≤ p ∧ p ≤ 4 ∧ (R (p - 1).toNat).on = true) = false from decide_eq_false (by omega)]
    go_enter Try.func27, Try.ntmps27
    go_wp2_with fail
    go_ret
    exact ⟨rfl, hbw⟩
  by_cases h4 : 4 < p
  · rw [show decide (1 ≤ p ∧ p ≤ 4 ∧ (R (p - 1).toNat).on = true) = false from decide_eq_false (by omega)]
    go_enter Try.func27, Try.ntmps27
    go_wp2_with fail
    go_ret
    exact ⟨rfl, hbw⟩
  have hp : p = 1 ∨ p = 2 ∨ p = 3 ∨ p = 4 := by omega
  clear h1 h4
  have HBW := Lib.hid hbw
  rcases hp with rfl | rfl | rfl | rfl
  · have c0 := (hc 0 (by decide)).1
    simp only [Nat.zero_mul, Nat.add_zero] at c0
    rw [show decide (1 ≤ (1 : Int) ∧ (1 : Int) ≤ 4 ∧ (R ((1 : Int) - 1).toNat).on = true) = (R 0).on by simp]
    generalize (R 0).on = r at *
    clear hc h hbw
    go_enter Try.func27, Try.ntmps27
    go_wp2_with fail
    go_ret
    exact ⟨rfl, HBW.out⟩
  · have c0 := (hc 1 (by decide)).1
    simp only [Nat.one_mul] at c0
    rw [show decide (1 ≤ (2 : Int) ∧ (2 : Int) ≤ 4 ∧ (R ((2 : Int) - 1).toNat).on = true) = (R 1).on by simp]
    generalize (R 1).on = r at *
    clear hc h hbw
    go_enter Try.func27, Try.ntmps27
    go_wp2_with fail
    go_ret
    exact ⟨rfl, HBW.out⟩
  · have c0 := (hc 2 (by decide)).1
    simp only [Nat.reduceMul] at c0
    rw [show decide (1 ≤ (3 : Int) ∧ (3 : Int) ≤ 4 ∧ (R ((3 : Int) - 1).toNat).on = true) = (R 2).on by simp]
    generalize (R 2).on = r at *
    clear hc h hbw
    go_enter Try.func27, Try.ntmps27
    go_wp2_with fail
    go_ret
    exact ⟨rfl, HBW.out⟩
  · have c0 := (hc 3 (by decide)).1
    simp only [Nat.reduceMul] at c0
    rw [show decide (1 ≤ (4 : Int) ∧ (4 : Int) ≤ 4 ∧ (R ((4 : Int) - 1).toNat).on = true) = (R 3).on by simp]
    generalize (R 3).on = r at *
    clear hc h hbw
    go_enter Try.func27, Try.ntmps27
    go_wp2_with fail
    go_ret
    exact ⟨rfl, HBW.out⟩
abbrev slO (s : RSl) : Obj := .cells #[.bool s.on, s.ks, s.qu, .int .i64 s.dr] 39
abbrev setSl (X : World) (b : Nat) (s : RSl) : World := (((X.setCell ⟨b, 0, none⟩ (.bool s.on)).setCell ⟨b, 1, none⟩ s.ks).setCell ⟨b, 2, none⟩ s.qu).setCell ⟨b, 3, none⟩ (.int .i64 s.dr)
theorem setSl_at {X : World} {b : Nat} {x0 x1 x2 x3 : Value} (h : X.heap[b]? = some (.cells #[x0, x1, x2, x3] 39 (0, 0))) (s : RSl) : (setSl X b s).heap[b]? = some (slO s) :=
  heap_setCell_same _ b 3 _ _ _ (heap_setCell_same _ b 2 _ _ _ (heap_setCell_same _ b 1 _ _ _ (heap_setCell_same X b 0 _ _ _ h)))
theorem setSl_far (X : World) (b : Nat) (s : RSl) (k : Nat) (hk : k ≠ b) : (setSl X b s).heap[k]? = X.heap[k]? :=
  (Below.heap_setCell _ _ _ k hk).trans ((Below.heap_setCell _ _ _ k hk).trans ((Below.heap_setCell _ _ _ k hk).trans (Below.heap_setCell _ _ _ k hk)))
theorem setSl_below {w X : World} {b : Nat} (h : Below w.heap.size w X) (hb : w.heap.size ≤ b) (s : RSl) : Below w.heap.size w (setSl X b s) :=
  ⟨h.os, h.tape, h.output, by simpa using h.size, fun k hk => (setSl_far X b s k (by omega)).trans (h.block k hk)⟩
set_option maxRecDepth 100000 in
set_option maxHeartbeats 1600000 in
theorem rget_any (V : Value) (R : Nat → RSl) (p : Int) (w : World) (h : RB w V R) : Calls Try.prog 11 #[.agg #[V], .int .i64 p] w fun e w' => e = .returned (rget R p).val ∧ Below w.heap.size w w' := by
  obtain ⟨o, n, cap, rfl⟩ : ∃ o n cap, V = .slice o n cap := by
    obtain ⟨o, cap, e, -⟩ := h
    exact ⟨o, _, cap, e⟩
  have hb1 := below_one w (.cells #[.slice o n cap] 28)
  have h1 := heap_alloc_new w (.cells #[.slice o n cap] 28)
  have hb2 := below_one (w.alloc (.cells #[.slice o n cap] 28)) (slO RSl.zero)
  have h2 := heap_alloc_new (w.alloc (.cells #[.slice o n cap] 28)) (slO RSl.zero)
  rw [World.size_alloc] at h2
  have h1' := (hb2.block _ (heap_lt h1)).trans h1
  have hb := hb1.trans (hb2.mono hb1.size)
  have HI := Lib.hid (ris_any (.slice o n cap) R p ((w.alloc (.cells #[.slice o n cap] 28)).alloc (slO RSl.zero)) (RowIn.below h hb))
  have HB := Lib.hid (And.intro h1' (And.intro h2 (And.intro hb (RowIn.below h hb))))
  have HR : Hid (rget R p = if 1 ≤ p ∧ p ≤ 4 ∧ (R (p - 1).toNat).on = true then R (p - 1).toNat else RSl.zero) := Lib.hid rfl
  generalize rget R p = T at *
  clear h1 h2 h1' hb1 hb2 hb h
  go_enter Try.func11, Try.ntmps11
  go_upto_region 1 with fail
  obtain ⟨W, hW⟩ : ∃ W, (w.alloc (.cells #[.slice o n cap] 28)).alloc (slO RSl.zero) = W := ⟨_, rfl⟩
  rw [hW] at HI HB
  change Code.wp _ _ _ _ ((w.alloc (.cells #[.slice o n cap] 28)).alloc (slO RSl.zero))
  rw [hW]
  clear hW
  have c1 : W.cell? ⟨w.heap.size, 0, none⟩ = some (.slice o n cap) := (cell_of_heap HB.out.1).trans rfl
  have hl := heap_lt HB.out.1
  go_wp2_with fail
  refine HI.out.mono ?_
  rintro e w3 ⟨rfl, hb3⟩
  have h13 := (hb3.block _ (heap_lt HB.out.1)).trans HB.out.1
  have h23 := (hb3.block _ (heap_lt HB.out.2.1)).trans HB.out.2.1
  have HB3 := Lib.hid (And.intro h13 (And.intro h23 (And.intro (HB.out.2.2.1.trans (hb3.mono HB.out.2.2.1.size)) (RowIn.below HB.out.2.2.2 hb3))))
  clear h13 h23 hb3 HB HI c1 hl
  have z0 : w3.cell? ⟨w.heap.size + 1, 0, none⟩ = some (.bool false) := (cell_of_heap HB3.out.2.1).trans rfl
  have z1 : w3.cell? ⟨w.heap.size + 1, 1, none⟩ = some (.slice none 0 0) := (cell_of_heap HB3.out.2.1).trans rfl
  have z2 : w3.cell? ⟨w.heap.size + 1, 2, none⟩ = some (.slice none 0 0) := (cell_of_heap HB3.out.2.1).trans rfl
  have z3 : w3.cell? ⟨w.heap.size + 1, 3, none⟩ = some (.int .i64 0) := (cell_of_heap HB3.out.2.1).trans rfl
  have f0 := thaw (k := 0) HB3.out.2.1
  have f1 := thaw (k := 1) HB3.out.2.1
  have f2 := thaw (k := 2) HB3.out.2.1
  have f3 := thaw (k := 3) HB3.out.2.1
  have hlz := heap_lt HB3.out.2.1
  by_cases hc : 1 ≤ p ∧ p ≤ 4 ∧ (R (p - 1).toNat).on = true
  · rw [decide_eq_true hc]
    rw [if_pos hc] at HR
    obtain ⟨i, rfl, hi⟩ : ∃ i : Nat, p = (i : Int) + 1 ∧ i < 4 := ⟨(p - 1).toNat, by omega, by omega⟩
    obtain ⟨rfl, hcap, b, off, rfl, hlb, hcc⟩ := RB.at_ HB3.out.2.2.2
    obtain ⟨d0, d1, d2, d3⟩ := hcc i hi
    rw [show ((i : Int) + 1 - 1).toNat = i by omega] at HR
    clear hc hcc
    generalize R i = s at *
    have c1 : w3.cell? ⟨w.heap.size, 0, none⟩ = some (.slice (some ⟨b, off, none⟩) 4 cap) := (cell_of_heap HB3.out.1).trans rfl
    have hl := heap_lt HB3.out.1
    have HZ := Lib.hid (And.intro (setSl_at HB3.out.2.1 s) (setSl_below HB3.out.2.2.1 (Nat.le_succ _) s))
    go_wp2_with fail
    refine bodyPost_ret (results_cell_row rfl _ _ (w.heap.size + 1) 39 _ (0, 0) _ rfl HZ.out.1 Try.underlying39 rfl (by kernel_rfl)) rfl ?_
    exact ⟨by rw [HR.out], HZ.out.2⟩
  · rw [decide_eq_false hc]
    rw [if_neg hc] at HR
    clear hc
    have HZ := Lib.hid (And.intro (setSl_at HB3.out.2.1 RSl.zero) (setSl_below HB3.out.2.2.1 (Nat.le_succ _) RSl.zero))
    go_wp2_with fail
    refine bodyPost_ret (results_cell_row rfl _ _ (w.heap.size + 1) 39 _ (0, 0) _ rfl HZ.out.1 Try.underlying39 rfl (by kernel_rfl)) rfl ?_
    exact ⟨by rw [HR.out], HZ.out.2⟩
end Go.Proofs.Ytgegphciaejkiaa
