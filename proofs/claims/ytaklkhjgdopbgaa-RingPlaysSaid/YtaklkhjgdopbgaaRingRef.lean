/- The document's answer for rings: New, Push, Pop, Shrink on plain lists. -/
import Derived.Test.YtaklkhjgdopbgaaRingLaw
namespace Go.Proofs.Ytaklkhjgdopbgaa
open Go.RowKit
theorem run_slo1 (o : Option Addr) (n cap : Nat) (k : IntKind) (hl : (1 : Int) ≤ (n : Int)) (wx : World) : (Instr.slice 26 (.slice o n cap) (some (.int k 1)) none none).run Try.prog wx = .ok (.slice (slo o cap 1) (n - 1) (cap - 1)) wx := run_slo o n cap k 1 hl wx
attribute [local go_sem ↓ 10000] run_slo1

theorem between_top (m : Int) (w : World) : Calls Try.prog 34 #[.int .i64 m, .int .i64 0, .int .i64 1000] w fun e w' => e = .returned (.int .i64 (rI.top m : Int)) ∧ w = w' := by
  have h1 : m < 0 → (0 : Int) = (rI.top m : Int) := by unfold rI.top; omega
  have h2 : 1000 < m → (1000 : Int) = (rI.top m : Int) := by unfold rI.top; omega
  have h3 : 0 ≤ m → m ≤ 1000 → m = (rI.top m : Int) := by unfold rI.top; omega
  generalize rI.top m = T at *
  have H1 := Lib.hid h1; have H2 := Lib.hid h2; have H3 := Lib.hid h3
  clear h1 h2 h3
  rcases (show m < 0 ∨ 0 ≤ m by omega) with h | h
  · go_enter Try.func34, Try.ntmps34
    go_wp2
    go_ret
    exact ⟨rI.ret_int (H1.out h), rfl⟩
  · rcases (show 1000 < m ∨ m ≤ 1000 by omega) with h' | h'
    · go_enter Try.func34, Try.ntmps34
      go_wp2
      go_ret
      exact ⟨rI.ret_int (H2.out h'), rfl⟩
    · go_enter Try.func34, Try.ntmps34
      go_wp2
      go_ret
      exact ⟨rI.ret_int (H3.out h h'), rfl⟩

/-- the document's ring as a value -/
abbrev refV (o : Option Addr) (n c M g : Nat) : Value := .agg #[.slice o n c, .int .i64 (M : Int), .int .i64 (g : Int)]

set_option maxHeartbeats 400000 in
theorem refNew_any (m : Int) (w : World) : Calls Try.prog 10 #[.int .i64 m] w fun e w' => e = .returned (refV none 0 0 (rI.top m) 0) ∧ Below w.heap.size w w' := by
  go_enter Try.func10, Try.ntmps10
  go_wp2_with fail
  refine (between_top _ _).mono ?_
  rintro e w1 ⟨rfl, rfl⟩
  go_wp2_with fail
  simp [bodyPost, results, Try.results10, go_sem]
  exact (Below.refl _ _).alloc (Nat.le_refl _) _

set_option maxRecDepth 100000 in
set_option maxHeartbeats 1600000 in
theorem refPop_none (o : Option Addr) (c M g : Nat) (w : World) : Calls Try.prog 14 #[refV o 0 c M g] w fun e w' => e = .returned (.tuple #[refV o 0 c M g, .int .i64 0, .bool false]) ∧ Below w.heap.size w w' := by
  go_enter Try.func14, Try.ntmps14
  go_wp2_with fail
  simp [bodyPost, results, Try.results14, go_sem]
  exact ((Below.refl _ _).alloc (Nat.le_refl _) _).alloc (by simp) _

set_option maxRecDepth 100000 in
set_option maxHeartbeats 1600000 in
theorem refPop_some (o : Option Addr) (n c M g : Nat) (zs : List Int) (w : World) (hz : Ints w o (n + 1) c zs) (hn : n < 2305843009213693952) :
    Calls Try.prog 14 #[refV o (n + 1) c M g] w fun e w' => e = .returned (.tuple #[refV o n n M g, .int .i64 (zs.getD n 0), .bool true]) ∧ Below w.heap.size w w' := by
  have hm : c ≤ 9223372036854775807 := hz.max
  have hle := hz.le
  obtain ⟨b, off, rfl, hb, hc⟩ := hz.cell (k := n) (by omega)
  generalize zs.getD n 0 = z at *
  clear hz
  go_enter Try.func14, Try.ntmps14
  go_wp2_with fail
  simp [bodyPost, results, Try.results14, go_sem]
  exact ((Below.refl _ _).alloc (Nat.le_refl _) _).alloc (by simp) _

/-- the box of a ring of the document -/
abbrev boxObj (v : Value) (M g : Nat) : Obj := .cells #[v, .int .i64 (M : Int), .int .i64 (g : Int)] 28 (0, 0)
structure BoxCells (w : World) (b : Nat) (v : Value) (M g : Nat) : Prop where
  c0 : w.cell? ⟨b, 0, none⟩ = some v
  c1 : w.cell? ⟨b, 1, none⟩ = some (.int .i64 (M : Int))
  c2 : w.cell? ⟨b, 2, none⟩ = some (.int .i64 (g : Int))
  f0 : w.frozen? ⟨b, 0, none⟩ = false
  f1 : w.frozen? ⟨b, 1, none⟩ = false
  f2 : w.frozen? ⟨b, 2, none⟩ = false
  lt : b < w.heap.size
theorem boxCells {w : World} {b : Nat} {v : Value} {M g : Nat} (h : w.heap[b]? = some (boxObj v M g)) : BoxCells w b v M g := by
  have hlt := (Array.getElem?_eq_some_iff.1 h).1
  refine ⟨?_, ?_, ?_, ?_, ?_, ?_, hlt⟩ <;> simp [World.cell?, World.frozen?, h]
theorem box_set0 {w : World} {b : Nat} {v : Value} {M g : Nat} (h : w.heap[b]? = some (boxObj v M g)) (u : Value) : (w.setCell ⟨b, 0, none⟩ u).heap[b]? = some (boxObj u M g) := by
  rw [heap_setCell_same w b 0 _ _ u h]; rfl
theorem box_set2 {w : World} {b : Nat} {v : Value} {M g : Nat} (h : w.heap[b]? = some (boxObj v M g)) (x : Int) (u : Nat) (hx : x = (u : Int)) : (w.setCell ⟨b, 2, none⟩ (.int .i64 x)).heap[b]? = some (boxObj v M u) := by
  subst hx; rw [heap_setCell_same w b 2 _ _ _ h]; rfl
theorem Ints.same2 {w w' : World} {o : Option Addr} {n cap : Nat} {zs : List Int} (H : Ints w o n cap zs) (hb : ∀ a, o = some a → a.block < w.heap.size → w'.heap[a.block]? = w.heap[a.block]?) (hs : w.heap.size ≤ w'.heap.size) : Ints w' o n cap zs :=
  H.same (fun k hk off h => hb ⟨k, off, none⟩ h hk) hs
theorem Ints.set_other {w : World} {o : Option Addr} {n cap : Nat} {zs : List Int} (H : Ints w o n cap zs) (p : Addr) (u : Value) (hp : ∀ a, o = some a → a.block ≠ p.block) : Ints (w.setCell p u) o n cap zs :=
  H.same2 (fun a ha _ => Below.heap_setCell w p u a.block (hp a ha)) (by simp)
theorem Ints.drew {w : World} {o : Option Addr} {n cap : Nat} {zs : List Int} (H : Ints w o n cap zs) : Ints w.drew o n cap zs := ⟨H.len, H.le, H.max, H.at_⟩
theorem Ints.grown {w w1 : World} {o : Option Addr} {n cap : Nat} {zs : List Int} (H : Ints w o n cap zs) {S : Nat → Prop} (hk : Kept w w1 S) (hp : ∀ a, o = some a → ¬ S a.block) : Ints w1 o n cap zs :=
  H.same2 (fun a ha hlt => hk.block a.block hlt (hp a ha)) hk.size

set_option maxRecDepth 100000 in
set_option maxHeartbeats 1600000 in
theorem refShrink_any (o : Option Addr) (n c M g : Nat) (m : Int) (zs : List Int) (w : World) (hz : Ints w o n c zs) (ho : ∀ a, o = some a → a.block < w.heap.size) (hn : n < 2305843009213693952) (hg : g < 2305843009213693952) :
    Calls Try.prog 16 #[refV o n c M g, .int .i64 m] w fun e w' => ∃ o' c', e = .returned (refV o' (min (rI.top m) n) c' (rI.top m) (g + (n - rI.top m))) ∧ Ints w' o' (min (rI.top m) n) c' (rg.lastOf zs (rI.top m)) ∧ (∀ a', o' = some a' → ∃ a, o = some a ∧ a'.block = a.block) ∧ Below w.heap.size w w' := by
  have hm : c ≤ 9223372036854775807 := hz.max
  have hle := hz.le
  obtain ⟨T, hT⟩ : ∃ T, rI.top m = T := ⟨_, rfl⟩
  have hT1 : T ≤ 1000 := by rw [← hT]; exact rI.top_le m
  have HZ := Lib.hid hz; have HT := Lib.hid hT; have HO := Lib.hid ho
  clear hz hT ho
  go_enter Try.func16, Try.ntmps16
  go_wp2_with fail
  refine (between_top _ _).mono ?_
  rintro e w1 ⟨rfl, rfl⟩
  rw [HT.out]
  go_wp2_with fail
  have hb0 : ((w.alloc (boxObj (.slice o n c) T g)).alloc (boxObj (.slice none 0 0) 0 0)).heap[w.heap.size]? = some (boxObj (.slice o n c) T g) := by
    exact (Below.heap_alloc _ _ _ (by simp)).trans (heap_alloc_new w _)
  have hb1 : ((w.alloc (boxObj (.slice o n c) T g)).alloc (boxObj (.slice none 0 0) 0 0)).heap[w.heap.size + 1]? = some (boxObj (.slice none 0 0) 0 0) := by
    have := heap_alloc_new (w.alloc (boxObj (.slice o n c) T g)) (boxObj (.slice none 0 0) 0 0)
    simpa using this
  have hbl : Below w.heap.size w ((w.alloc (boxObj (.slice o n c) T g)).alloc (boxObj (.slice none 0 0) 0 0)) := ((Below.refl _ _).alloc (Nat.le_refl _) _).alloc (by simp) _
  go_loopg [8] n (fun gg s8 wr => ∃ (j N C G : Nat) (o' : Option Addr), N = n - j ∧ C = c - j ∧ G = g + j ∧ j ≤ n - T ∧ N ≤ gg ∧ Hid (wr.heap[w.heap.size]? = some (boxObj (.slice o' N C) T G)) ∧ Hid (wr.heap[w.heap.size + 1]? = some (boxObj (.slice none 0 0) 0 0)) ∧ Hid (Ints wr o' N C (zs.drop j)) ∧ Hid (∀ a', o' = some a' → ∃ a, o = some a ∧ a'.block = a.block) ∧ Below w.heap.size w wr)
  case atStart => exact ⟨0, n, c, g, o, rfl, rfl, rfl, by omega, Nat.le_refl _, Lib.hid hb0, Lib.hid hb1, Lib.hid (HZ.out.below hbl), Lib.hid (fun a' h => ⟨a', h, rfl⟩), hbl⟩
  case round =>
    obtain ⟨j, N, C, G, o', hN, hC, hG, hj, hgg, HB0, HB1, HI, HBL, hbel⟩ := hrel
    clear hb0 hb1 hbl
    have hNb : N ≤ n := by omega
    have hNC : N ≤ C := by omega
    have hCb : C ≤ c := by omega
    have hGb : G < 4611686018427387904 := by omega
    have HN := Lib.hid hN; have HC := Lib.hid hC; have HG := Lib.hid hG
    clear hN hC hG
    obtain ⟨c0, c1, c2, f0, f1, f2, hlt0⟩ := boxCells HB0.out
    obtain ⟨d0, d1, d2, x0, x1, x2, hlt1⟩ := boxCells HB1.out
    by_cases hlt : T < N
    · have hNi : (1 : Int) ≤ (N : Int) := by omega
      have hob : ∀ a, o' = some a → a.block ≠ w.heap.size := fun a ha => by
        obtain ⟨a0, h0, h1⟩ := HBL.out a ha
        have := HO.out a0 h0
        omega
      have hi2 : Ints ((wr.setCell ⟨w.heap.size, 0, none⟩ (.slice (slo o' C 1) (N - 1) (C - 1))).setCell ⟨w.heap.size, 2, none⟩ (.int .i64 ((G : Int) + 1))) (slo o' C 1) (N - 1) (C - 1) (zs.drop (j + 1)) := by
        have h1 := slice_lo HI.out 1 (by omega)
        rw [List.drop_drop] at h1
        have hob2 : ∀ a, slo o' C 1 = some a → a.block ≠ w.heap.size := fun a ha => by
          obtain ⟨a0, h0, h1⟩ := slo_block o' C 1 a ha
          rw [h1]; exact hob a0 h0
        exact (h1.set_other ⟨w.heap.size, 0, none⟩ _ hob2).set_other ⟨w.heap.size, 2, none⟩ _ hob2
      have hb02 : ((wr.setCell ⟨w.heap.size, 0, none⟩ (.slice (slo o' C 1) (N - 1) (C - 1))).setCell ⟨w.heap.size, 2, none⟩ (.int .i64 ((G : Int) + 1))).heap[w.heap.size]? = some (boxObj (.slice (slo o' C 1) (N - 1) (C - 1)) T (G + 1)) := box_set2 (box_set0 HB0.out _) _ (G + 1) (by omega)
      have hb12 : ((wr.setCell ⟨w.heap.size, 0, none⟩ (.slice (slo o' C 1) (N - 1) (C - 1))).setCell ⟨w.heap.size, 2, none⟩ (.int .i64 ((G : Int) + 1))).heap[w.heap.size + 1]? = some (boxObj (.slice none 0 0) 0 0) :=
        heap_set_other _ _ _ (by show w.heap.size + 1 ≠ w.heap.size; omega) (heap_set_other _ _ _ (by show w.heap.size + 1 ≠ w.heap.size; omega) HB1.out)
      have hbel2 := (hbel.setCell (p := ⟨w.heap.size, 0, none⟩) (Nat.le_refl _) (.slice (slo o' C 1) (N - 1) (C - 1))).setCell (p := ⟨w.heap.size, 2, none⟩) (Nat.le_refl _) (.int .i64 ((G : Int) + 1))
      have hbl2 : ∀ a', slo o' C 1 = some a' → ∃ a, o = some a ∧ a'.block = a.block := fun a' h => by
        obtain ⟨a1, h1, h2⟩ := slo_block o' C 1 a' h
        obtain ⟨a0, h3, h4⟩ := HBL.out a1 h1
        exact ⟨a0, h3, by rw [h2, h4]⟩
      have HI2 := Lib.hid hi2; have HB02 := Lib.hid hb02; have HB12 := Lib.hid hb12; have HBL2 := Lib.hid hbl2; have HBE := Lib.hid hbel2
      clear hi2 hb02 hb12 hbl2 hob hbel2
      go_wp2_with fail
      go_roundg (N - 1)
      case measure => omega
      case rel => exact ⟨j + 1, N - 1, C - 1, G + 1, _, by have := HN.out; omega, by have := HC.out; omega, by have := HG.out; omega, by have := HN.out; omega, Nat.le_refl _, HB02, HB12, HI2, HBL2, HBE.out⟩
    · have hjn : j = n - T := by have := HN.out; omega
      have hNe : N = min T n := by have := HN.out; omega
      have hGe : G = g + (n - T) := by have := HG.out; omega
      have hdr : zs.drop j = rg.lastOf zs T := by rw [hjn, ← HZ.out.len]; rfl
      have hfin : ∃ o2 c2, refV o' N C T G = refV o2 (min T n) c2 T (g + (n - T)) ∧ (∀ w2, Below wr.heap.size wr w2 ∨ (∀ a, o' = some a → w2.heap[a.block]? = wr.heap[a.block]?) ∧ wr.heap.size ≤ w2.heap.size → Ints w2 o2 (min T n) c2 (rg.lastOf zs T)) ∧ (∀ a', o2 = some a' → ∃ a, o = some a ∧ a'.block = a.block) := by
        refine ⟨o', C, by rw [hNe, hGe], fun w2 h => ?_, HBL.out⟩
        rw [← hNe, ← hdr]
        rcases h with h | ⟨h, hs⟩
        · exact HI.out.below h
        · exact HI.out.same2 (fun a ha _ => h a ha) hs
      have hob : ∀ a, o' = some a → a.block < w.heap.size := fun a ha => by
        obtain ⟨a0, h0, h1⟩ := HBL.out a ha
        have := HO.out a0 h0
        omega
      have HF := Lib.hid hfin; have HOB := Lib.hid hob
      clear hfin hob hdr hNe hGe hjn
      go_wp2_with fail
      rw [HT.out]
      have hbf := ((hbel.setCell (p := ⟨w.heap.size + 1, 0, none⟩) (Nat.le_succ _) (.slice o' N C)).setCell (p := ⟨w.heap.size + 1, 1, none⟩) (Nat.le_succ _) (.int .i64 (T : Int))).setCell (p := ⟨w.heap.size + 1, 2, none⟩) (Nat.le_succ _) (.int .i64 (G : Int))
      refine bodyPost_ret (v := refV o' N C T G) ?_ rfl ?_
      · simp [results, Try.results16, go_sem, d0, d1, d2]
      · obtain ⟨o2, c2', he, hi2, hb2⟩ := HF.out
        refine ⟨o2, c2', by rw [he], hi2 _ (.inr ⟨fun a ha => ?_, by simp⟩), hb2, hbf⟩
        have := HOB.out a ha
        rw [Below.heap_setCell _ _ _ _ (by show a.block ≠ w.heap.size + 1; omega), Below.heap_setCell _ _ _ _ (by show a.block ≠ w.heap.size + 1; omega), Below.heap_setCell _ _ _ _ (by show a.block ≠ w.heap.size + 1; omega)]
end Go.Proofs.Ytaklkhjgdopbgaa
