/- What is too much, taken away from the last part on. -/
import Derived.Test.YteilaoiimlpbkaaSolRange
import Derived.Test.YteilaoiimlpbkaaSolSpread
namespace Go.Proofs.Yteilaoiimlpbkaa
namespace sl
/-- the lengths, and what is still too much, when k parts have been seen from the last one on -/
def lessAt (zs : List Int) (o : Int) (k : Nat) : List Int := zs.take (zs.length - k) ++ (less (zs.drop (zs.length - k)) o).1
def overAt (zs : List Int) (o : Int) (k : Nat) : Int := (less (zs.drop (zs.length - k)) o).2
theorem lessAt_zero (zs : List Int) (o : Int) : lessAt zs o 0 = zs ∧ overAt zs o 0 = o := by simp [lessAt, overAt, less]
theorem lessAt_all (zs : List Int) (o : Int) : lessAt zs o zs.length = (less zs o).1 := by simp [lessAt]
theorem lessAt_low (zs : List Int) (o : Int) (k j : Nat) (hj : j < zs.length - k) : (lessAt zs o k).getD j 0 = zs.getD j 0 := by
  simp only [lessAt, List.getD]
  rw [List.getElem?_append_left (by simp; omega), List.getElem?_take, if_pos hj]
theorem lessAt_next (zs : List Int) (o : Int) (k m : Nat) (hm : m + 1 + k = zs.length) : lessAt zs o (k + 1) = (lessAt zs o k).set m (zs.getD m 0 - mnI (overAt zs o k) (zs.getD m 0 - 1)) ∧ overAt zs o (k + 1) = overAt zs o k - mnI (overAt zs o k) (zs.getD m 0 - 1) := by
  have hml : m < zs.length := by omega
  have e1 : zs.length - k = m + 1 := by omega
  have e2 : zs.length - (k + 1) = m := by omega
  have e3 : zs.drop m = zs.getD m 0 :: zs.drop (m + 1) := by rw [List.drop_eq_getElem_cons hml]; simp [List.getD, hml]
  unfold lessAt overAt
  rw [e1, e2, e3]
  refine ⟨?_, rfl⟩
  have e4 : zs.take (m + 1) = zs.take m ++ [zs.getD m 0] := int_take_snoc zs m hml
  rw [e4, List.append_assoc, List.set_append_right _ _ (by simp; omega)]
  simp [less, Nat.min_eq_left (Nat.le_of_lt hml)]
theorem overAt_bounds (zs : List Int) (o : Int) (k : Nat) (h : ∀ x ∈ zs, 1 ≤ x) (ho : 0 ≤ o) : 0 ≤ overAt zs o k ∧ overAt zs o k ≤ o := by
  have h' : ∀ x ∈ zs.drop (zs.length - k), 1 ≤ x := fun x hx => h x (List.mem_of_mem_drop hx)
  have h1 := (less_rest _ o h' ho).1
  have h2 := sum_ge _ h'
  unfold overAt
  omega
theorem mnI_bounds (a z : Int) (ha : 0 ≤ a) (hz : 1 ≤ z) : 0 ≤ mnI a (z - 1) ∧ mnI a (z - 1) ≤ z - 1 ∧ mnI a (z - 1) ≤ a := by
  unfold mnI; split <;> omega
end sl
open Go.RowKit
attribute [local go_sem ↓ 10000] run_mn run_mx
attribute [local go_sem] Oper.semAt_some

/-- what the library's iterator reads: its slice, and the numbers that are still to come -/
def BackIn (bx g n cap : Nat) (zs : List Int) (k : Nat) (V : World) : Prop :=
  V.cell? ⟨bx, 0, none⟩ = some (.slice (some ⟨g, 0, none⟩) n cap) ∧ ∀ j, j < n - k → V.cell? ⟨g, j, none⟩ = some (.int .i64 (zs.getD j 0))
def backX (n : Nat) (zs : List Int) (k : Nat) : Array Value := #[.int .i64 ((n - 1 - k : Nat) : Int), .int .i64 (zs.getD (n - 1 - k) 0)]
set_option maxRecDepth 100000 in
set_option maxHeartbeats 2000000 in
theorem back_hands (F : Fence) (n0 : Nat) (hF : F.fn 27) (hro : F.round = none) (hn : 1 ≤ n0) (bx g n cap : Nat) (zs : List Int) (hnm : n ≤ 1000) :
    Hands F n0 27 #[.pointer (some ⟨bx, 0, none⟩)] (backX n zs) n (BackIn bx g n cap zs) := by
  intro l J W hInv hY h0
  refine callsIn_of_wp Try.func27 rfl hF ?_ hro
  simp only [Try.ntmps27, List.size_toArray, List.length_cons, List.length_nil, Nat.reduceAdd, Nat.reduceSub, Array.replicate_succ, Array.replicate_zero, List.push_toArray, List.append_toArray, List.nil_append, List.cons_append]
  have hc0 := (hInv 0 W h0).1
  have H0 := Lib.hid h0
  clear h0
  gi_wp2
  gi_loopw [3] (fun i wr => ∃ m k : Nat, m + k = n ∧ i = .int .i64 ((m : Int) - 1) ∧ J k wr)
    (fun i _ => (intOf i + 1).toNat)
  case atStart => exact ⟨n, 0, by omega, rfl, H0.out⟩
  case round =>
    obtain ⟨m, k, hmk, rfl, hJ⟩ := hrel
    obtain ⟨hc1, hc2⟩ := hInv k wr hJ
    clear hc0
    cases m with
    | zero =>
      obtain rfl : k = n := by omega
      clear hc2
      gi_wp2
      go_end0
      exact ⟨⟨_, rfl⟩, hJ⟩
    | succ m =>
      obtain ⟨fn, tmps, assign, body, hy, hR⟩ := hY k wr (by omega) hJ
      have hcm := hc2 m (by omega)
      rw [show ((m + 1 : Nat) : Int) - 1 = (m : Int) by omega]
      unfold backX at hy
      rw [show n - 1 - k = m by omega] at hy
      have hmn : m < n := by omega
      clear hc2
      generalize zs.getD m 0 = z at *
      gi_wp2
      refine hR.mono ?_
      rintro e W3 ⟨rfl, hJ3⟩
      gi_wp2
      go_roundw
      case rel => exact ⟨m, k + 1, by omega, rfl, hJ3⟩
      case measure => simp [intOf]
/-- slices.Backward: the slice in a box, and the function over it -/
theorem back_any (F : Fence) (n0 : Nat) (hF : F.fn 24) (hro : F.round = none) (a : Option Addr) (n cap : Nat) (w : World) :
    CallsIn F n0 Try.prog 24 #[.slice a n cap] w fun e w' => e = .returned (.func (.func 27) #[] #[.pointer (some ⟨w.heap.size, 0, none⟩)]) ∧ w' = w.alloc (.cells #[.slice a n cap] 24) := by
  refine callsIn_of_wp Try.func24 rfl hF ?_ hro
  simp only [Try.ntmps24, List.size_toArray, List.length_cons, List.length_nil, Nat.reduceAdd, Nat.reduceSub, Array.replicate_succ, Array.replicate_zero, List.push_toArray, List.append_toArray, List.nil_append, List.cons_append]
  gi_wp2
  go_ret
  exact ⟨rfl, rfl⟩
/-- what lies in memory when k rounds are over: the lengths in block g, boxes b, b + 1, b + 2 with the lengths' slice, what is too much, the slice again -/
structure LessIn (w : World) (B g cap n b : Nat) (zs : List Int) (o : Int) (k : Nat) (V : World) : Prop where
  row : RowI V B g cap n (sl.lessAt zs o k)
  c0 : V.heap[b]? = some (.cells #[.slice (some ⟨g, 0, none⟩) n cap] 24 (0, 0))
  c1 : V.heap[b + 1]? = some (.cells #[.int .i64 (sl.overAt zs o k)] 3 (0, 0))
  c2 : V.heap[b + 2]? = some (.cells #[.slice (some ⟨g, 0, none⟩) n cap] 24 (0, 0))
  kept : Kept w V (· = g)
theorem RowI.set_other {w : World} {B g cap n : Nat} {zs : List Int} (h : RowI w B g cap n zs) (a : Addr) (u : Value) (hne : a.block ≠ g) : RowI (w.setCell a u) B g cap n zs := by
  refine ⟨h.1, ?_⟩
  rcases h.2 with h' | ⟨g', cap', cur, he, h1, h2, rest⟩
  · exact .inl h'
  · cases he
    exact .inr ⟨g, cap, cur, rfl, h1, heap_set_other w a u (Ne.symm hne) h2, rest⟩
theorem one_cells {w : World} {b : Nat} {v : Value} {T : TypeId} (h : w.heap[b]? = some (.cells #[v] T (0, 0))) : w.cell? ⟨b, 0, none⟩ = some v ∧ w.frozen? ⟨b, 0, none⟩ = false := by
  constructor <;> simp [World.cell?, World.frozen?, h]
theorem LessIn.later {w : World} {B g cap n b : Nat} {zs : List Int} {o : Int} {k : Nat} {V V' : World} (h : LessIn w B g cap n b zs o k V) (hg : g < b + 3) (hw : w.heap.size ≤ b + 3) (hb : Below (b + 3) V V') : LessIn w B g cap n b zs o k V' := by
  refine ⟨?_, (hb.block b (by omega)).trans h.c0, (hb.block (b + 1) (by omega)).trans h.c1, (hb.block (b + 2) (by omega)).trans h.c2, ⟨hb.os.trans h.kept.os, hb.tape.trans h.kept.tape, hb.output.trans h.kept.output, Nat.le_trans h.kept.size hb.size, fun i hi hn => (hb.block i (by omega)).trans (h.kept.block i hi hn)⟩⟩
  have hr := h.row
  refine ⟨hr.1, ?_⟩
  rcases hr.2 with h' | ⟨g', cap', cur, he, h1, h2, rest⟩
  · exact .inl h'
  · cases he
    exact .inr ⟨g, cap, cur, rfl, h1, (hb.block g hg).trans h2, rest⟩
set_option maxRecDepth 100000 in
set_option maxHeartbeats 2000000 in
theorem lessen_in (F : Fence) (n0 : Nat) (h18 : F.fn 18) (h24 : F.fn 24) (h27 : F.fn 27) (hro : F.round = none) (hn0 : 3 ≤ n0)
    (B g cap n : Nat) (zs : List Int) (o : Int) (w : World) (hr : RowI w B g cap n zs) (hn : n ≤ 16) (hz : ∀ x ∈ zs, 1 ≤ x ∧ x ≤ 200) (ho0 : 0 ≤ o) (ho1 : o ≤ 10000) :
    CallsIn F n0 Try.prog 18 #[.slice (some ⟨g, 0, none⟩) n cap, .int .i64 o] w fun e w' => e = .returned (.tuple #[]) ∧ RowI w' B g cap n (sl.less zs o).1 ∧ Kept w w' (· = g) := by
  have h1 : 1 ≤ n0 := by omega
  have hglt := hr.lt
  have hlen := hr.len
  obtain ⟨hc1, hc2⟩ := hr.caps
  have HR := Lib.hid hr
  have HZ := Lib.hid hz
  clear hr hz
  refine callsIn_of_wp_marks Try.func18 rfl h18 ?_ hro
  simp only [Try.ntmps18, List.size_toArray, List.length_cons, List.length_nil, Nat.reduceAdd, Nat.reduceSub, Array.replicate_succ, Array.replicate_zero, List.push_toArray, List.append_toArray, List.nil_append, List.cons_append]
  gi_wp2_with (gi_at_call 24; refine (back_any F (n0 - 1) h24 hro _ _ _ _).mono ?_; rintro e w' ⟨rfl, rfl⟩)
  have hst : LessIn w B g cap n w.heap.size zs o 0 (((w.alloc (.cells #[.slice (some ⟨g, 0, none⟩) n cap] 24)).alloc (.cells #[.int .i64 o] 3)).alloc (.cells #[.slice (some ⟨g, 0, none⟩) n cap] 24)) := by
    obtain ⟨e1, e2⟩ := sl.lessAt_zero zs o
    have hb : Below w.heap.size w (((w.alloc (.cells #[.slice (some ⟨g, 0, none⟩) n cap] 24)).alloc (.cells #[.int .i64 o] 3)).alloc (.cells #[.slice (some ⟨g, 0, none⟩) n cap] 24)) := (((Below.refl _ _).alloc (Nat.le_refl _) _).alloc (by simp) _).alloc (by simp; omega) _
    refine ⟨by rw [e1]; exact HR.out.kept hb, ?_, ?_, ?_, Kept.of_below hb _⟩
    · exact (Below.heap_alloc _ _ _ (by simp; omega)).trans ((Below.heap_alloc _ _ _ (by simp)).trans (World.alloc_heap_new w _))
    · rw [e2]
      refine (Below.heap_alloc _ _ _ (by simp)).trans ?_
      have := World.alloc_heap_new (w.alloc (.cells #[.slice (some ⟨g, 0, none⟩) n cap] 24)) (.cells #[.int .i64 o] 3)
      rwa [World.size_alloc] at this
    · have := World.alloc_heap_new ((w.alloc (.cells #[.slice (some ⟨g, 0, none⟩) n cap] 24)).alloc (.cells #[.int .i64 o] 3)) (.cells #[.slice (some ⟨g, 0, none⟩) n cap] 24)
      rwa [World.size_alloc, World.size_alloc] at this
  have hsz : (((w.alloc (.cells #[.slice (some ⟨g, 0, none⟩) n cap] 24)).alloc (.cells #[.int .i64 o] 3)).alloc (.cells #[.slice (some ⟨g, 0, none⟩) n cap] 24)).heap.size = w.heap.size + 3 := by simp
  generalize (((w.alloc (.cells #[.slice (some ⟨g, 0, none⟩) n cap] 24)).alloc (.cells #[.int .i64 o] 3)).alloc (.cells #[.slice (some ⟨g, 0, none⟩) n cap] 24)) = W0 at *
  have HST := Lib.hid hst
  have HSZ := Lib.hid hsz
  have HLEN := Lib.hid hlen
  clear hst hsz hlen
  refine wpIn_hands hro h1 (gf := 27) (lb := #[.pointer (some ⟨w.heap.size + 1 + 1, 0, none⟩)]) rfl h27 (enters_of Try.func27 (by kernel_rfl) rfl) (x := backX n zs) (N := n) (fun _ => rfl)
    (LessIn w B g cap n w.heap.size zs o)
    (fun k V V' h hb => h.later (by omega) (by omega) (by rw [← HSZ.out]; exact hb))
    (fun k V h => ⟨(one_cells h.c2).1, fun j hj => by rw [← sl.lessAt_low zs o k j (by rw [HLEN.out]; exact hj)]; exact h.row.cell (by omega)⟩)
    (back_hands F (n0 - 1) h27 hro (by omega) (w.heap.size + 1 + 1) g n cap zs (by omega)) HST.out
    (fun k => { tmps := #[.slice (some ⟨g, 0, none⟩) n cap, .int .i64 o, .pointer (some ⟨w.heap.size, 0, none⟩), .pointer (some ⟨w.heap.size + 1, 0, none⟩), .int .i64 ((n - 1 - k : Nat) : Int), .int .i64 (zs.getD (n - 1 - k) 0), undef, .slice (some ⟨g, 0, none⟩) n cap, .func (.func 27) #[] #[.pointer (some ⟨w.heap.size + 1 + 1, 0, none⟩)], .int .i64 ((n - 1 - k : Nat) : Int), .int .i64 (zs.getD (n - 1 - k) 0), undef, undef, undef, undef, undef, undef, undef, undef, undef, undef, undef, undef, undef, undef], defers := [] }) ?assign ?body ?done
  case assign =>
    intro l k W K hK
    unfold backX
    generalize n - 1 - k = j at *
    generalize zs.getD j 0 = z at *
    gi_wp2
    exact hK
  case body =>
    intro l k W hk hI
    obtain ⟨m, hm⟩ : ∃ m, m + 1 + k = n := ⟨n - 1 - k, by omega⟩
    have hmj : n - 1 - k = m := by omega
    rw [hmj]
    have hmn : m < n := by omega
    have hmc : m < cap := by omega
    obtain ⟨hx1, hx2⟩ := sl.lessAt_next zs o k m (by rw [HLEN.out]; exact hm)
    have hrc := hI.row.cell hmn
    rw [sl.lessAt_low zs o k m (by rw [HLEN.out]; omega)] at hrc
    have hfz := hI.row.frozen m
    obtain ⟨p0, p1⟩ := one_cells hI.c0
    obtain ⟨q0, q1⟩ := one_cells hI.c1
    have hob := sl.overAt_bounds zs o k (fun x hx => (HZ.out x hx).1) ho0
    have hzb := HZ.out (zs.getD m 0) (sl.getD_mem zs m (by rw [HLEN.out]; exact hmn))
    have hmb := sl.mnI_bounds (sl.overAt zs o k) (zs.getD m 0) hob.1 hzb.1
    rw [show sl.mnI = mn from rfl] at hx1 hx2 hmb
    have HI := Lib.hid hI
    generalize sl.overAt zs o k = ov at *
    generalize zs.getD m 0 = z at *
    have HX1 := Lib.hid hx1
    have HX2 := Lib.hid hx2
    clear hx1 hx2 hm hmj hI
    obtain ⟨m1, m2, m3⟩ := hmb
    gi_wp2
    refine ⟨(KeepsOthers.setCell _ _ _).trans (KeepsOthers.setCell _ _ _), ?_, ?_, ?_, ?_, ?_⟩
    · rw [HX1.out]
      exact (HI.out.row.set m _).set_other ⟨w.heap.size + 1, 0, none⟩ _ (show w.heap.size + 1 ≠ g by omega)
    · exact heap_set_other _ _ _ (show w.heap.size ≠ w.heap.size + 1 by omega) (heap_set_other _ _ _ (show w.heap.size ≠ g by omega) HI.out.c0)
    · rw [HX2.out, heap_setCell_same _ (w.heap.size + 1) 0 _ _ _ (heap_set_other W ⟨g, m, none⟩ _ (show w.heap.size + 1 ≠ g by omega) HI.out.c1)]
      rfl
    · exact heap_set_other _ _ _ (show w.heap.size + 2 ≠ w.heap.size + 1 by omega) (heap_set_other _ _ _ (show w.heap.size + 2 ≠ g by omega) HI.out.c2)
    · exact (HI.out.kept.setCell (p := ⟨g, m, none⟩) (fun _ => rfl) _).setCell (p := ⟨w.heap.size + 1, 0, none⟩) (fun h => by have : w.heap.size + 1 < w.heap.size := h; omega) _
  case done =>
    intro D W hD hI hK
    gi_wp2
    refine ⟨by simp, .inl ⟨_, _, rfl, run_takeDeferred hK, ?_⟩⟩
    have hL := hI.later (V' := W.putObj D (.deferred none)) (by omega) (by omega) (below_put W _ (by rw [← HSZ.out]; exact hD))
    refine ⟨_, results_none rfl _ _ _, rfl, ?_, hL.kept⟩
    have := hL.row
    rw [← HLEN.out, sl.lessAt_all] at this
    rw [← HLEN.out]
    exact this
theorem lessen_any (B g cap n : Nat) (zs : List Int) (o : Int) (w : World) (hr : RowI w B g cap n zs) (hn : n ≤ 16) (hz : ∀ x ∈ zs, 1 ≤ x ∧ x ≤ 200) (ho0 : 0 ≤ o) (ho1 : o ≤ 10000) :
    Calls Try.prog 18 #[.slice (some ⟨g, 0, none⟩) n cap, .int .i64 o] w fun e w' => e = .returned (.tuple #[]) ∧ RowI w' B g cap n (sl.less zs o).1 ∧ Kept w w' (· = g) :=
  (callsIn_wide (n := 3)).1 (lessen_in Fence.wide 3 trivial trivial trivial rfl (Nat.le_refl _) B g cap n zs o w hr hn hz ho0 ho1)
end Go.Proofs.Yteilaoiimlpbkaa
