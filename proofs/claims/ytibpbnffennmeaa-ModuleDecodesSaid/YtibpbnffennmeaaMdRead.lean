/- The reader's parts: the tests that are handed in; one, two, number, data. -/
import Derived.Test.YtibpbnffennmeaaMdNext
import Derived.Laws.DeepNot64
import Derived.Laws.EntriesVeiled
namespace Go.Proofs.Ytibpbnffennmeaa
open Go.RowKit
set_option maxRecDepth 100000 in
theorem signT_any (k q : Nat) (hk : k < 4) (c : UInt8) (w : World) (h0 : w.cell? ⟨q, 0, none⟩ = some (.int .i64 k)) :
    Calls Try.prog 18 #[.int .u8 (c.toNat : Nat), .pointer (some ⟨q, 0, none⟩)] w fun e w' => e = .returned (.bool (decide (c.toNat = (md.head[k]'hk).toNat))) ∧ w' = w := by
  have hq := World.block_lt_of_cell? w _ h0
  dsimp only at hq
  rcases (show k = 0 ∨ k = 1 ∨ k = 2 ∨ k = 3 by omega) with rfl | rfl | rfl | rfl
  · have HD : Hid (decide (c.toNat = (md.head[0]'hk).toNat) = ((c.toNat : Int) == 67)) := Lib.hid (by rw [show (md.head[0]'hk).toNat = 67 from rfl, Bool.eq_iff_iff]; simp; omega)
    generalize decide (c.toNat = (md.head[0]'hk).toNat) = R at *
    generalize c.toNat = n at *
    go_enter Try.func18, Try.ntmps18
    go_wp2_with fail
    go_ret
    exact ⟨ret_bool HD.out.symm, rfl⟩
  · have HD : Hid (decide (c.toNat = (md.head[1]'hk).toNat) = ((c.toNat : Int) == 83)) := Lib.hid (by rw [show (md.head[1]'hk).toNat = 83 from rfl, Bool.eq_iff_iff]; simp; omega)
    generalize decide (c.toNat = (md.head[1]'hk).toNat) = R at *
    generalize c.toNat = n at *
    go_enter Try.func18, Try.ntmps18
    go_wp2_with fail
    go_ret
    exact ⟨ret_bool HD.out.symm, rfl⟩
  · have HD : Hid (decide (c.toNat = (md.head[2]'hk).toNat) = ((c.toNat : Int) == 77)) := Lib.hid (by rw [show (md.head[2]'hk).toNat = 77 from rfl, Bool.eq_iff_iff]; simp; omega)
    generalize decide (c.toNat = (md.head[2]'hk).toNat) = R at *
    generalize c.toNat = n at *
    go_enter Try.func18, Try.ntmps18
    go_wp2_with fail
    go_ret
    exact ⟨ret_bool HD.out.symm, rfl⟩
  · have HD : Hid (decide (c.toNat = (md.head[3]'hk).toNat) = ((c.toNat : Int) == 1)) := Lib.hid (by rw [show (md.head[3]'hk).toNat = 1 from rfl, Bool.eq_iff_iff]; simp; omega)
    generalize decide (c.toNat = (md.head[3]'hk).toNat) = R at *
    generalize c.toNat = n at *
    go_enter Try.func18, Try.ntmps18
    go_wp2_with fail
    go_ret
    exact ⟨ret_bool HD.out.symm, rfl⟩
set_option maxRecDepth 100000 in
theorem dataT_any (c : UInt8) (w : World) : Calls Try.prog 34 #[.int .u8 (c.toNat : Nat)] w fun e w' => e = .returned (.bool true) ∧ w' = w := by
  generalize c.toNat = n at *
  go_enter Try.func34, Try.ntmps34
  go_wp2_with fail
  go_ret
  exact ⟨rfl, rfl⟩
set_option maxRecDepth 100000 in
theorem oneT_any (lo hi a b : Nat) (c : UInt8) (w : World) (h0 : w.cell? ⟨a, 0, none⟩ = some (.int .i64 lo)) (h1 : w.cell? ⟨b, 0, none⟩ = some (.int .i64 hi)) :
    Calls Try.prog 35 #[.int .u8 (c.toNat : Nat), .pointer (some ⟨a, 0, none⟩), .pointer (some ⟨b, 0, none⟩)] w fun e w' => e = .returned (.bool (md.fits lo hi c.toNat)) ∧ w' = w := by
  have hq := World.block_lt_of_cell? w _ h0
  have hq2 := World.block_lt_of_cell? w _ h1
  dsimp only at hq hq2
  have hn := c.toNat_lt
  have HD : Hid (md.fits lo hi c.toNat = decide (lo ≤ c.toNat ∧ c.toNat ≤ hi)) := Lib.hid rfl
  generalize md.fits lo hi c.toNat = R at *
  generalize c.toNat = n at *
  by_cases g1 : (lo : Int) ≤ (n : Int)
  · by_cases g2 : (n : Int) ≤ (hi : Int)
    · go_enter Try.func35, Try.ntmps35
      go_wp2_with fail
      go_ret
      exact ⟨ret_bool (by rw [HD.out]; symm; rw [decide_eq_true_eq]; omega), rfl⟩
    · go_enter Try.func35, Try.ntmps35
      go_wp2_with fail
      go_ret
      exact ⟨ret_bool (by rw [HD.out]; symm; rw [decide_eq_false_iff_not]; omega), rfl⟩
  · go_enter Try.func35, Try.ntmps35
    go_wp2_with fail
    go_ret
    exact ⟨ret_bool (by rw [HD.out]; symm; rw [decide_eq_false_iff_not]; omega), rfl⟩
set_option maxRecDepth 100000 in
theorem fitsT_any (lo hi a b n : Nat) (w : World) (h0 : w.cell? ⟨a, 0, none⟩ = some (.int .i64 lo)) (h1 : w.cell? ⟨b, 0, none⟩ = some (.int .i64 hi)) :
    Calls Try.prog 31 #[.int .i64 (n : Nat), .pointer (some ⟨a, 0, none⟩), .pointer (some ⟨b, 0, none⟩)] w fun e w' => e = .returned (.bool (md.fits lo hi n)) ∧ w' = w := by
  have hq := World.block_lt_of_cell? w _ h0
  have hq2 := World.block_lt_of_cell? w _ h1
  dsimp only at hq hq2
  have HD : Hid (md.fits lo hi n = decide (lo ≤ n ∧ n ≤ hi)) := Lib.hid rfl
  generalize md.fits lo hi n = R at *
  by_cases g1 : (lo : Int) ≤ (n : Int)
  · by_cases g2 : (n : Int) ≤ (hi : Int)
    · go_enter Try.func31, Try.ntmps31
      go_wp2_with fail
      go_ret
      exact ⟨ret_bool (by rw [HD.out]; symm; rw [decide_eq_true_eq]; omega), rfl⟩
    · go_enter Try.func31, Try.ntmps31
      go_wp2_with fail
      go_ret
      exact ⟨ret_bool (by rw [HD.out]; symm; rw [decide_eq_false_iff_not]; omega), rfl⟩
  · go_enter Try.func31, Try.ntmps31
    go_wp2_with fail
    go_ret
    exact ⟨ret_bool (by rw [HD.out]; symm; rw [decide_eq_false_iff_not]; omega), rfl⟩
abbrev fitsV (a b : Nat) : Value := .func (.func 31) #[] #[.pointer (some ⟨a, 0, none⟩), .pointer (some ⟨b, 0, none⟩)]
set_option maxRecDepth 100000 in
theorem lowT_any (lo hi a b q : Nat) (c : UInt8) (w : World) (h0 : w.cell? ⟨a, 0, none⟩ = some (.int .i64 lo)) (h1 : w.cell? ⟨b, 0, none⟩ = some (.int .i64 hi)) (h2 : w.cell? ⟨q, 0, none⟩ = some (fitsV a b)) :
    Calls Try.prog 32 #[.int .u8 (c.toNat : Nat), .pointer (some ⟨q, 0, none⟩)] w fun e w' => e = .returned (.bool (md.fits lo hi c.toNat || md.fits lo hi (c.toNat + 256))) ∧ w' = w := by
  have hq := World.block_lt_of_cell? w _ h2
  dsimp only at hq
  have hn := c.toNat_lt
  have H1 := Lib.hid (fitsT_any lo hi a b c.toNat w h0 h1)
  have H2 := Lib.hid (fitsT_any lo hi a b (c.toNat + 256) w h0 h1)
  rw [show (((c.toNat + 256 : Nat)) : Int) = (c.toNat : Int) + 256 by omega] at H2
  generalize md.fits lo hi (c.toNat + 256) = r2 at *
  generalize md.fits lo hi c.toNat = r1 at *
  generalize c.toNat = n at *
  clear h0 h1
  go_enter Try.func32, Try.ntmps32
  go_wp2_with fail
  refine H1.out.mono ?_
  rintro e w' ⟨rfl, hw⟩
  replace hw := hw.symm
  subst hw
  cases r1 with
  | true =>
    go_wp2_with fail
    go_ret
    exact ⟨rfl, rfl⟩
  | false =>
    go_wp2_with fail
    refine H2.out.mono ?_
    rintro e w' ⟨rfl, hw⟩
    replace hw := hw.symm
    subst hw
    go_wp2_with fail
    go_ret
    exact ⟨rfl, rfl⟩
set_option maxRecDepth 100000 in
theorem highT_any (lo hi a b q r x : Nat) (hx : x < 256) (c : UInt8) (w : World) (h0 : w.cell? ⟨a, 0, none⟩ = some (.int .i64 lo)) (h1 : w.cell? ⟨b, 0, none⟩ = some (.int .i64 hi)) (h2 : w.cell? ⟨q, 0, none⟩ = some (fitsV a b)) (h3 : w.cell? ⟨r, 0, none⟩ = some (.int .i64 x)) :
    Calls Try.prog 33 #[.int .u8 (c.toNat : Nat), .pointer (some ⟨q, 0, none⟩), .pointer (some ⟨r, 0, none⟩)] w fun e w' => e = .returned (.bool (md.fits lo hi (x + c.toNat * 256))) ∧ w' = w := by
  have hq := World.block_lt_of_cell? w _ h2
  have hq2 := World.block_lt_of_cell? w _ h3
  dsimp only at hq hq2
  have hn := c.toNat_lt
  have H1 := Lib.hid (fitsT_any lo hi a b (x + c.toNat * 256) w h0 h1)
  rw [show (((x + c.toNat * 256 : Nat)) : Int) = (x : Int) + (c.toNat : Int) * 256 by omega] at H1
  generalize md.fits lo hi (x + c.toNat * 256) = r1 at *
  generalize c.toNat = n at *
  clear h0 h1
  go_enter Try.func33, Try.ntmps33
  go_wp2_with fail
  refine H1.out.mono ?_
  rintro e w' ⟨rfl, hw⟩
  replace hw := hw.symm
  subst hw
  go_wp2_with fail
  go_ret
  exact ⟨rfl, rfl⟩
set_option maxRecDepth 100000 in
theorem mayBe_any (c : UInt8) (k : Nat) (w : World) : Calls Try.prog 46 #[.int .u8 (c.toNat : Nat), .int .i64 k] w fun e w' => e = .returned (.bool (md.mayBe c k)) ∧ w' = w := by
  have HD : Hid (md.mayBe c k = if k = 0 then true else if k = 9 then decide (c.toNat = 1) else decide (c.toNat ≠ 0)) := Lib.hid rfl
  generalize md.mayBe c k = R at *
  generalize c.toNat = n at *
  by_cases h0 : k = 0
  · subst h0
    go_enter Try.func46, Try.ntmps46
    go_wp2_with fail
    go_ret
    exact ⟨ret_bool HD.out.symm, rfl⟩
  · have e0 : ((k : Int) == 0) = false := by simp; omega
    by_cases h9 : k = 9
    · subst h9
      go_enter Try.func46, Try.ntmps46
      go_wp2_with fail
      go_ret
      refine ⟨ret_bool ?_, rfl⟩
      rw [HD.out, Bool.eq_iff_iff]
      simp; omega
    · have e9 : ((k : Int) == 9) = false := by simp; omega
      go_enter Try.func46, Try.ntmps46
      go_wp2_with fail
      go_ret
      refine ⟨ret_bool ?_, rfl⟩
      rw [HD.out, if_neg h0, if_neg h9, Bool.eq_iff_iff]
      simp
set_option maxRecDepth 100000 in
theorem numT_any (k q : Nat) (c : UInt8) (w : World) (h0 : w.cell? ⟨q, 0, none⟩ = some (.int .i64 k)) :
    Calls Try.prog 45 #[.int .u8 (c.toNat : Nat), .pointer (some ⟨q, 0, none⟩)] w fun e w' => e = .returned (.bool (md.mayBe c k)) ∧ w' = w := by
  have hq := World.block_lt_of_cell? w _ h0
  dsimp only at hq
  have H := Lib.hid (mayBe_any c k w)
  generalize md.mayBe c k = R at *
  generalize c.toNat = n at *
  go_enter Try.func45, Try.ntmps45
  go_wp2_with fail
  refine H.out.mono ?_
  rintro e w' ⟨rfl, hw⟩
  replace hw := hw.symm
  subst hw
  go_wp2_with fail
  go_ret
  exact ⟨rfl, rfl⟩
set_option maxRecDepth 100000 in
theorem unfolded_any (u : Nat) (hu : u < 18446744073709551616) (w : World) : Calls Try.prog 47 #[u64V u] w fun e w' => e = .returned (.int .i64 (md.unf u)) ∧ w' = w := by
  have HD : Hid (md.unf u = if u % 2 = 1 then -((u / 2 : Nat) : Int) - 1 else ((u / 2 : Nat) : Int)) := Lib.hid rfl
  generalize md.unf u = R at *
  have hn := i64_not (u / 2) (by omega)
  rw [show ((u / 2 : Nat) : Int) = (u : Int) / 2 by omega] at hn
  by_cases h1 : u % 2 = 1
  · have e1 : (((u : Int) % 2) == 1) = true := by simp; omega
    have HZ : Hid (-1 - (u : Int) / 2 = R) := Lib.hid (by rw [HD.out, if_pos h1]; omega)
    clear HD h1
    go_enter Try.func47, Try.ntmps47
    go_wp2_with fail
    go_ret
    exact ⟨ret_int HZ.out, rfl⟩
  · have e1 : (((u : Int) % 2) == 1) = false := by simp; omega
    have HZ : Hid ((u : Int) / 2 = R) := Lib.hid (by rw [HD.out, if_neg h1]; omega)
    clear HD h1 hn
    go_enter Try.func47, Try.ntmps47
    go_wp2_with fail
    go_ret
    exact ⟨ret_int HZ.out, rfl⟩
set_option maxRecDepth 100000 in
set_option maxHeartbeats 800000 in
theorem one_any (lo hi p : Nat) (s : md.St) (w : World) (h : RdAt w p s) :
    Calls Try.prog 21 #[.pointer (some ⟨p, 0, none⟩), .int .i64 lo, .int .i64 hi] w fun e w' => e = .returned (.int .i64 ((md.one lo hi s).1 : Nat)) ∧ RdAt w' p (md.one lo hi s).2 ∧ Fr (· = p) w w' := by
  have hb1 := below_one w (.cells #[.int .i64 lo] 3)
  have hb2 := below_one (w.alloc (.cells #[.int .i64 lo] 3)) (.cells #[.int .i64 hi] 3)
  have h0 : ((w.alloc (.cells #[.int .i64 lo] 3)).alloc (.cells #[.int .i64 hi] 3)).cell? ⟨w.heap.size, 0, none⟩ = some (.int .i64 lo) := (cell_of_heap ((hb2.block _ (by simp)).trans (heap_alloc_new w _))).trans rfl
  have h1 : ((w.alloc (.cells #[.int .i64 lo] 3)).alloc (.cells #[.int .i64 hi] 3)).cell? ⟨w.heap.size + 1, 0, none⟩ = some (.int .i64 hi) := by
    have := heap_alloc_new (w.alloc (.cells #[.int .i64 lo] 3)) (.cells #[.int .i64 hi] 3)
    rw [World.size_alloc] at this
    exact (cell_of_heap this).trans rfl
  have HN := Lib.hid (next_one (fun c => md.fits lo hi c.toNat) p w.heap.size (w.heap.size + 1) s _ ((h.below hb1).below hb2) (fun c => oneT_any lo hi w.heap.size (w.heap.size + 1) c _ h0 h1))
  have HF : Hid (Fr (· = p) w ((w.alloc (.cells #[.int .i64 lo] 3)).alloc (.cells #[.int .i64 hi] 3))) := Lib.hid (((Fr.refl (· = p) w).alloc _).alloc _)
  have HR : Hid (md.one lo hi s = ((md.next (fun c => md.fits lo hi c.toNat) s).1.toNat, (md.next (fun c => md.fits lo hi c.toNat) s).2)) := Lib.hid rfl
  clear hb1 hb2 h0 h1 h
  rcases hx : md.next (fun c => md.fits lo hi c.toNat) s with ⟨c, s'⟩
  rw [hx] at HN HR
  have hc := c.toNat_lt
  dsimp only at HN HR
  generalize c.toNat = n at *
  clear hx
  generalize md.one lo hi s = R at *
  go_enter Try.func21, Try.ntmps21
  go_wp2_with fail
  refine HN.out.mono ?_
  rintro e w' ⟨rfl, hr, hf⟩
  have HZ := Lib.hid (And.intro hr (HF.out.then hf))
  clear hr hf
  go_wp2_with fail
  go_ret
  rw [HR.out]
  exact ⟨rfl, HZ.out⟩
theorem md.next_lt (f : UInt8 → Bool) (s : md.St) : (md.next f s).1.toNat < 256 := (md.next f s).1.toNat_lt
set_option maxRecDepth 100000 in
set_option maxHeartbeats 1600000 in
theorem two_any (lo hi p : Nat) (s : md.St) (w : World) (h : RdAt w p s) :
    Calls Try.prog 19 #[.pointer (some ⟨p, 0, none⟩), .int .i64 lo, .int .i64 hi] w fun e w' => e = .returned (.int .i64 ((md.two lo hi s).1 : Nat)) ∧ RdAt w' p (md.two lo hi s).2 ∧ Fr (· = p) w w' := by
  have hp := h.lt
  obtain ⟨w1, hw1⟩ : ∃ w1, w.alloc (.cells #[.int .i64 lo] 3) = w1 := ⟨_, rfl⟩
  obtain ⟨w2, hw2⟩ : ∃ w2, w1.alloc (.cells #[.int .i64 hi] 3) = w2 := ⟨_, rfl⟩
  obtain ⟨w3, hw3⟩ : ∃ w3, w2.alloc (.cells #[fitsV w.heap.size (w.heap.size + 1)] 41) = w3 := ⟨_, rfl⟩
  have hb1 := below_one w (.cells #[.int .i64 lo] 3)
  have hn1 := heap_alloc_new w (.cells #[.int .i64 lo] 3)
  have hs1 := World.size_alloc w (.cells #[.int .i64 lo] 3)
  rw [hw1] at hb1 hn1 hs1
  have hb2 := below_one w1 (.cells #[.int .i64 hi] 3)
  have hn2 := heap_alloc_new w1 (.cells #[.int .i64 hi] 3)
  have hs2 := World.size_alloc w1 (.cells #[.int .i64 hi] 3)
  rw [hw2] at hb2 hn2 hs2
  have hb3 := below_one w2 (.cells #[fitsV w.heap.size (w.heap.size + 1)] 41)
  have hn3 := heap_alloc_new w2 (.cells #[fitsV w.heap.size (w.heap.size + 1)] 41)
  have hs3 := World.size_alloc w2 (.cells #[fitsV w.heap.size (w.heap.size + 1)] 41)
  rw [hw3] at hb3 hn3 hs3
  rw [hs1] at hn2
  replace hs2 : w2.heap.size = w.heap.size + 2 := by omega
  replace hs3 : w3.heap.size = w.heap.size + 3 := by omega
  rw [hs2] at hn3
  have a0 := (hb3.block _ (by omega)).trans ((hb2.block _ (by omega)).trans hn1)
  have a1 := (hb3.block _ (by omega)).trans hn2
  have H3 := Lib.hid (And.intro a0 (And.intro a1 (And.intro hn3 (And.intro (((h.below hb1).below hb2).below hb3) ((((Fr.refl (· = p) w).below hb1).below hb2).below hb3)))))
  have HS3 := Lib.hid (show w3.heap.size = w.heap.size + 3 by omega)
  have HN := Lib.hid (next_two2 (fun c => md.fits lo hi c.toNat || md.fits lo hi (c.toNat + 256)) p (w.heap.size + 2) s w3 H3.out.2.2.2.1 (fun c => lowT_any lo hi w.heap.size (w.heap.size + 1) (w.heap.size + 2) c w3 ((cell_of_heap a0).trans rfl) ((cell_of_heap a1).trans rfl) ((cell_of_heap hn3).trans rfl)))
  have HR : Hid (md.two lo hi s = (((md.next (fun c => md.fits lo hi c.toNat || md.fits lo hi (c.toNat + 256)) s).1.toNat + (md.next (fun c => md.fits lo hi ((md.next (fun c => md.fits lo hi c.toNat || md.fits lo hi (c.toNat + 256)) s).1.toNat + c.toNat * 256)) (md.next (fun c => md.fits lo hi c.toNat || md.fits lo hi (c.toNat + 256)) s).2).1.toNat * 256), (md.next (fun c => md.fits lo hi ((md.next (fun c => md.fits lo hi c.toNat || md.fits lo hi (c.toNat + 256)) s).1.toNat + c.toNat * 256)) (md.next (fun c => md.fits lo hi c.toNat || md.fits lo hi (c.toNat + 256)) s).2).2)) := Lib.hid rfl
  have hx := md.next_lt (fun c => md.fits lo hi c.toNat || md.fits lo hi (c.toNat + 256)) s
  generalize md.next (fun c => md.fits lo hi c.toNat || md.fits lo hi (c.toNat + 256)) s = X at *
  obtain ⟨c, s1⟩ := X
  dsimp only at HN HR hx
  generalize c.toNat = x at *
  generalize md.two lo hi s = R at *
  clear hb1 hn1 hb2 hn2 hb3 hn3 a0 a1 h
  go_enter Try.func19, Try.ntmps19
  go_wp2_with fail
  refine HN.out.mono ?_
  rintro e w4 ⟨rfl, hr4, hf4⟩
  have hp4 := hr4.lt
  have hs4 : w.heap.size + 3 ≤ w4.heap.size := by have := hf4.size; omega
  have b0 := (hf4.block _ (heap_lt H3.out.1) (show ¬ _ = p by omega)).trans H3.out.1
  have b1 := (hf4.block _ (heap_lt H3.out.2.1) (show ¬ _ = p by omega)).trans H3.out.2.1
  have b2 := (hf4.block _ (heap_lt H3.out.2.2.1) (show ¬ _ = p by omega)).trans H3.out.2.2.1
  have hb5 := below_one w4 (.cells #[.int .i64 x] 3)
  have hn5 := heap_alloc_new w4 (.cells #[.int .i64 x] 3)
  have H5 := Lib.hid (And.intro hn5 (And.intro (hr4.below hb5) ((H3.out.2.2.2.2.then hf4).below hb5)))
  have HN2 := Lib.hid (next_two3 (fun c => md.fits lo hi (x + c.toNat * 256)) p (w.heap.size + 2) w4.heap.size s1 _ H5.out.2.1 (fun c => highT_any lo hi w.heap.size (w.heap.size + 1) (w.heap.size + 2) w4.heap.size x hx c _
    ((cell_of_heap ((hb5.block _ (by omega)).trans b0)).trans rfl) ((cell_of_heap ((hb5.block _ (by omega)).trans b1)).trans rfl) ((cell_of_heap ((hb5.block _ (by omega)).trans b2)).trans rfl) ((cell_of_heap hn5).trans rfl)))
  have hy := md.next_lt (fun c => md.fits lo hi (x + c.toNat * 256)) s1
  generalize md.next (fun c => md.fits lo hi (x + c.toNat * 256)) s1 = Y at *
  obtain ⟨d, s2⟩ := Y
  dsimp only at HN2 HR hy
  generalize d.toNat = y at *
  clear hb5 hn5 b0 b1 b2 hr4 hf4 HN H3 HS3 hw1 hw2 hw3 hs1 hs2 hs3
  go_upto_region 3 with fail
  generalize w4.alloc (.cells #[.int .i64 x] 3) = w5 at *
  go_wp2_with fail
  refine HN2.out.mono ?_
  rintro e w6 ⟨rfl, hr6, hf6⟩
  have b3 := (hf6.block _ (heap_lt H5.out.1) (show ¬ _ = p by omega)).trans H5.out.1
  have k3 : w6.cell? ⟨w4.heap.size, 0, none⟩ = some (.int .i64 x) := (cell_of_heap b3).trans rfl
  have hlt6 := heap_lt b3
  have HZ := Lib.hid (And.intro hr6 (H5.out.2.2.then hf6))
  clear b3 hr6 hf6 HN2 H5
  go_wp2_with fail
  go_ret
  rw [HR.out]
  exact ⟨ret_int (by simp), HZ.out⟩
theorem md.two_st (lo hi : Nat) (s : md.St) : (md.two lo hi s).1 ≤ hi ∨ (md.two lo hi s).1 < 256 := by
  have e : (md.two lo hi s).1 = (md.next (fun c => md.fits lo hi c.toNat || md.fits lo hi (c.toNat + 256)) s).1.toNat + (md.next (fun c => md.fits lo hi ((md.next (fun c => md.fits lo hi c.toNat || md.fits lo hi (c.toNat + 256)) s).1.toNat + c.toNat * 256)) (md.next (fun c => md.fits lo hi c.toNat || md.fits lo hi (c.toNat + 256)) s).2).1.toNat * 256 := rfl
  rw [e]
  clear e
  generalize hx : (md.next (fun c => md.fits lo hi c.toNat || md.fits lo hi (c.toNat + 256)) s) = X
  obtain ⟨c, ⟨l, b⟩⟩ := X
  dsimp only
  have hc := c.toNat_lt
  cases b with
  | true => rw [md.next_bad]; right; simpa using hc
  | false =>
    cases l with
    | nil => rw [md.next_end]; right; simpa using hc
    | cons d r =>
      cases hf : md.fits lo hi (c.toNat + d.toNat * 256)
      · rw [md.next_no _ _ _ hf]; right; simpa using hc
      · rw [md.next_ok hf]
        left
        unfold md.fits at hf
        simp at hf
        exact hf.2
theorem md.next_mem (f : UInt8 → Bool) (s : md.St) : (md.next f s).1 = 0 ∨ f (md.next f s).1 = true := by
  obtain ⟨l, b⟩ := s
  cases b with
  | true => rw [md.next_bad]; exact .inl rfl
  | false =>
    cases l with
    | nil => exact .inl rfl
    | cons d r =>
      cases hf : f d
      · rw [md.next_no _ _ _ hf]; exact .inl rfl
      · rw [md.next_ok hf]; exact .inr hf
theorem num_bits (u x k U2 : Nat) (h : u + x % 128 * 128 ^ k = U2) (hu : u < 128 ^ k) (hx : x < 256) (hk : k ≤ 9) (h9 : k = 9 → x ≤ 1) :
    bits .or .u64 (u : Int) (IntKind.u64.wrap ((x : Int) % 128 * 2 ^ (k * 7))) = (U2 : Int) ∧ U2 < 18446744073709551616 ∧ U2 < 128 ^ (k + 1) := by
  have hp : (128 : Nat) ^ k = 2 ^ (7 * k) := by rw [Nat.pow_mul]
  have hx1 : x % 128 < 128 := Nat.mod_lt _ (by decide)
  have hv : x % 128 * 128 ^ k ≤ 127 * 128 ^ 8 ∨ (k = 9 ∧ x % 128 * 128 ^ k ≤ 128 ^ 9) := by
    by_cases hk9 : k = 9
    · right
      subst hk9
      have := h9 rfl
      refine ⟨rfl, ?_⟩
      calc x % 128 * 128 ^ 9 ≤ 1 * 128 ^ 9 := Nat.mul_le_mul_right _ (by omega)
        _ = 128 ^ 9 := Nat.one_mul _
    · left
      exact Nat.mul_le_mul (by omega) (Nat.pow_le_pow_right (by decide) (by omega))
  have hu9 : u < 128 ^ 9 := Nat.lt_of_lt_of_le hu (Nat.pow_le_pow_right (by decide) hk)
  have hu8 : k ≠ 9 → u < 128 ^ 8 := fun h => Nat.lt_of_lt_of_le hu (Nat.pow_le_pow_right (by decide) (by omega))
  have e8 : (128 : Nat) ^ 8 = 72057594037927936 := by decide
  have e9 : (128 : Nat) ^ 9 = 9223372036854775808 := by decide
  have hlt : U2 < 18446744073709551616 := by omega
  refine ⟨?_, hlt, ?_⟩
  · have e1 : ((x : Int) % 128 * 2 ^ (k * 7)) = ((x % 128 * 128 ^ k : Nat) : Int) := by
      rw [hp, Nat.mul_comm 7 k]
      simp
    generalize hV : x % 128 * 128 ^ k = V at *
    rw [e1, IntKind.wrap_u64, show ((V : Int)) % 18446744073709551616 = (V : Int) by omega, u64_or_nat u V (by omega) (by omega), Nat.or_comm, nat_join (7 * k) V u (by rw [← hV, hp]; exact Nat.mul_mod_left _ _) (by rw [← hp]; exact hu)]
    omega
  · rw [← h, Nat.pow_succ]
    have : x % 128 * 128 ^ k ≤ 127 * 128 ^ k := Nat.mul_le_mul_right _ (by omega)
    omega
set_option maxRecDepth 100000 in
set_option maxHeartbeats 1600000 in
theorem number_any (p : Nat) (s : md.St) (w : World) (h : RdAt w p s) :
    Calls Try.prog 42 #[.pointer (some ⟨p, 0, none⟩)] w fun e w' => e = .returned (.int .i64 (md.number s).1) ∧ RdAt w' p (md.number s).2 ∧ Fr (· = p) w w' := by
  have hp := h.lt
  have HR : Hid (md.number s = (md.unf (md.num 10 0 s).1, (md.num 10 0 s).2)) := Lib.hid rfl
  have H0 := Lib.hid (And.intro h (And.intro (Fr.refl (· = p) w) (show 0 + (md.num 10 0 s).1 = (md.num 10 0 s).1 ∧ (md.num 10 0 s).2 = (md.num 10 0 s).2 from ⟨Nat.zero_add _, rfl⟩)))
  generalize md.number s = R at *
  obtain ⟨N, hN⟩ : ∃ N, md.num 10 0 s = N := ⟨_, rfl⟩
  have H1 : Hid (RdAt w p s ∧ Fr (· = p) w w ∧ 0 + (md.num 10 0 s).1 = N.1 ∧ (md.num 10 0 s).2 = N.2) := Lib.hid (by rw [← hN]; exact H0.out)
  rw [hN] at HR
  clear h H0 hN
  go_enter Try.func42, Try.ntmps42
  go_wp2_with fail
  go_loopg [3, 6] 10 (fun gg s3 s6 wr => ∃ (k f u : Nat) (st : md.St), s3 = u64V u ∧ s6 = .int .i64 k ∧ k + f = 10 ∧ f ≤ gg ∧ u < 128 ^ k ∧ u < 18446744073709551616 ∧ Hid (RdAt wr p st ∧ Fr (· = p) w wr ∧ u + (md.num f k st).1 = N.1 ∧ (md.num f k st).2 = N.2))
  case atStart => exact ⟨0, 10, 0, s, rfl, rfl, rfl, Nat.le_refl _, by decide, by decide, H1⟩
  case round =>
    clear H1
    obtain ⟨k, f, u, st, rfl, rfl, hkf, hgg, hu, hu2, HA⟩ := hrel
    cases f with
    | zero =>
      obtain rfl : k = 10 := by omega
      have HU := Lib.hid (fun W => unfolded_any u hu2 W)
      have HZ : Hid (R = (md.unf u, st)) := Lib.hid (by
        rw [HR.out]
        have h1 := HA.out.2.2.1
        have h2 := HA.out.2.2.2
        have e1 : N.1 = u := h1.symm
        have e2 : N.2 = st := h2.symm
        rw [e1, e2])
      go_wp2_with fail
      refine (HU.out _).mono ?_
      rintro e w' ⟨rfl, hw⟩
      replace hw := hw.symm
      subst hw
      go_wp2_with fail
      go_ret
      rw [HZ.out]
      exact ⟨rfl, HA.out.1, HA.out.2.1⟩
    | succ f =>
      have hki : (k : Int) < 10 := by omega
      have hb1 := below_one wr (.cells #[.int .i64 k] 3)
      have hn1 := heap_alloc_new wr (.cells #[.int .i64 k] 3)
      have hpw : p < wr.heap.size := HA.out.1.lt
      have H2 := Lib.hid (And.intro hn1 (HA.out.2.1.below hb1))
      have HN := Lib.hid (next_num (fun c => md.mayBe c k) p wr.heap.size st _ (HA.out.1.below hb1) (fun c => numT_any k wr.heap.size c _ ((cell_of_heap hn1).trans rfl)))
      have HS : Hid (md.num (f + 1) k st = if (md.next (fun c => md.mayBe c k) st).1.toNat < 128 then ((md.next (fun c => md.mayBe c k) st).1.toNat % 128 * 128 ^ k, (md.next (fun c => md.mayBe c k) st).2) else ((md.next (fun c => md.mayBe c k) st).1.toNat % 128 * 128 ^ k + (md.num f (k + 1) (md.next (fun c => md.mayBe c k) st).2).1, (md.num f (k + 1) (md.next (fun c => md.mayBe c k) st).2).2)) := Lib.hid (by
        show md.bnd _ _ _ = _
        dsimp only [md.bnd]
        split <;> rfl)
      have hx := md.next_lt (fun c => md.mayBe c k) st
      have hm : Hid (k = 9 → (md.next (fun c => md.mayBe c k) st).1.toNat ≤ 1) := Lib.hid (fun h9 => by
        rcases md.next_mem (fun c => md.mayBe c k) st with h | h
        · rw [h]; decide
        · generalize (md.next (fun c => md.mayBe c k) st).1 = y at h ⊢
          unfold md.mayBe at h
          rw [if_neg (by omega), if_pos h9] at h
          simp only [decide_eq_true_eq] at h
          omega)
      generalize md.next (fun c => md.mayBe c k) st = Y at *
      obtain ⟨c, st'⟩ := Y
      dsimp only at HN HS hx hm
      generalize c.toNat = x at *
      clear hb1 hn1
      go_wp2_with fail
      refine HN.out.mono ?_
      rintro e w2 ⟨rfl, hr2, hf2⟩
      have b3 := (hf2.block _ (heap_lt H2.out.1) (show ¬ _ = p by omega)).trans H2.out.1
      have k3 : w2.cell? ⟨wr.heap.size, 0, none⟩ = some (.int .i64 k) := (cell_of_heap b3).trans rfl
      have hlt2 := heap_lt b3
      have H3 := Lib.hid (And.intro hr2 (H2.out.2.then hf2))
      clear b3 hr2 hf2 HN H2
      obtain ⟨U2, hU2⟩ : ∃ U2, u + x % 128 * 128 ^ k = U2 := ⟨_, rfl⟩
      obtain ⟨hor, hb2, hb3⟩ := num_bits u x k U2 hU2 hu hx (by omega) hm.out
      have HU2 := Lib.hid hU2
      have HB3 := Lib.hid hb3
      clear hU2 hb3 hm hu
      go_upto_region 7 with fail
      by_cases hx128 : x < 128
      · have hxi : (x : Int) < 128 := by omega
        have HZ : Hid (R = (md.unf U2, st')) := Lib.hid (by
          have h1 := HA.out.2.2.1
          have h2 := HA.out.2.2.2
          rw [HS.out, if_pos hx128] at h1 h2
          rw [HR.out, ← h1, ← h2]
          show (md.unf (u + x % 128 * 128 ^ k), st') = _
          rw [HU2.out])
        have HU := Lib.hid (fun W => unfolded_any U2 hb2 W)
        clear hx128 k3
        go_wp2_with fail
        refine (HU.out _).mono ?_
        rintro e w' ⟨rfl, hw⟩
        replace hw := hw.symm
        subst hw
        go_wp2_with fail
        go_ret
        rw [HZ.out]
        exact ⟨rfl, H3.out⟩
      · have hxi : ¬ (x : Int) < 128 := by omega
        have HZ : Hid (U2 + (md.num f (k + 1) st').1 = N.1 ∧ (md.num f (k + 1) st').2 = N.2) := Lib.hid (by
          have h1 := HA.out.2.2.1
          have h2 := HA.out.2.2.2
          rw [HS.out, if_neg hx128] at h1 h2
          dsimp only at h1 h2
          have := HU2.out
          exact ⟨by omega, h2⟩)
        clear hx128 k3
        go_wp2_with fail
        go_roundg f
        case measure => omega
        case rel => exact ⟨k + 1, f, U2, st', rfl, by go_num, by omega, Nat.le_refl _, HB3.out, hb2, Lib.hid ⟨H3.out.1, H3.out.2, HZ.out⟩⟩
/-- a row of zeros that is made -/
theorem run_make_bytes (n : Nat) (h : n ≤ 1048576) (W : World) : (Instr.makeSlice 22 (.int .i64 (n : Int)) (.int .i64 (n : Int))).run Try.prog W = .ok (.slice (some ⟨W.heap.size, 0, none⟩) n n) (W.alloc (.cells (madeCells #[Value.int .u8 0] n) 5)) := by
  obtain ⟨i, hi, h1, h2, h3⟩ := info_parts infoByte
  have := run_make (P := Try.prog) W 22 5 i _ Try.underlying22 hi h1 .i64 .i64 (n : Int) (n : Int) (by omega) (by omega) (by rw [h3]; omega) (by omega)
  rw [this, h2]
  simp only [Int.toNat_natCast, Nat.mul_one]
  rfl
set_option maxRecDepth 100000 in
set_option maxHeartbeats 1600000 in
theorem data_any (p n : Nat) (s : md.St) (w : World) (h : RdAt w p s) (hn : n ≤ 1048576) :
    Calls Try.prog 20 #[.pointer (some ⟨p, 0, none⟩), .int .i64 n] w fun e w' => ∃ V, e = .returned V ∧ BRow w' w.heap.size V (md.data n s).1 ∧ RdAt w' p (md.data n s).2 ∧ Fr (· = p) w w' := by
  have hp := h.lt
  have hmk := fun W => run_make_bytes n hn W
  obtain ⟨X, hX⟩ : ∃ X, madeCells #[Value.int .u8 0] n = X := ⟨_, rfl⟩
  have hXs : X.size = n := by rw [← hX]; have := size_madeCells #[Value.int .u8 0] n; simpa using this
  rw [hX] at hmk
  have hb1 := below_one w (.cells X 5)
  have hrow : (w.alloc (.cells X 5)).ownsRow w.heap.size 5 1 (.slice (some ⟨w.heap.size, 0, none⟩) n n) n X.toList := World.ownsRow_lit w X n (Nat.le_refl _) (by unfold maxLen; omega) (by omega)
  have H1 : Hid ((w.alloc (.cells X 5)).ownsRow w.heap.size 5 1 (.slice (some ⟨w.heap.size, 0, none⟩) n n) n X.toList ∧ RdAt (w.alloc (.cells X 5)) p s ∧ Fr (· = p) w (w.alloc (.cells X 5))) := Lib.hid ⟨hrow, h.below hb1, (Fr.refl (· = p) w).below hb1⟩
  have HXL : Hid (X.toList.length = n) := Lib.hid (by simpa using hXs)
  have HSN := Lib.hid (fun k => md.many_snoc (md.next fun _ => true) k s)
  have HD : Hid (md.data n s = md.many (md.next fun _ => true) n s) := Lib.hid rfl
  have HL0 := Lib.hid (fun k => md.many_len (md.next fun _ => true) k s)
  rw [HD.out]
  clear hb1 hrow h hX hXs HD
  generalize X.toList = xs at *
  go_enter Try.func20, Try.ntmps20
  go_upto_region 3 with fail
  generalize w.alloc (.cells X 5) = w1 at *
  go_loopg [11] n (fun gg s11 wr => ∃ (k : Nat) (tl : List Value), s11 = .int .i64 k ∧ k ≤ n ∧ n - k ≤ gg ∧ tl.length + k = n ∧ Hid (wr.ownsRow w.heap.size 5 1 (.slice (some ⟨w.heap.size, 0, none⟩) n n) n (byC (md.many (md.next fun _ => true) k s).1 ++ tl) ∧ RdAt wr p (md.many (md.next fun _ => true) k s).2 ∧ Fr (· = p) w wr))
  case atStart => exact ⟨0, xs, rfl, Nat.zero_le _, by omega, by have := HXL.out; omega, H1⟩
  case round =>
    clear H1 HXL
    obtain ⟨k, tl, rfl, hk, hgg, htl, HA⟩ := hrel
    by_cases hlt : k < n
    case neg =>
      obtain rfl : k = n := by omega
      obtain rfl : tl = [] := List.length_eq_zero_iff.1 (by omega)
      go_wp2_with fail
      go_ret
      refine ⟨_, rfl, ?_, HA.out.2⟩
      have := HA.out.1
      unfold BRow
      rw [HL0.out]
      simpa using this
    case pos =>
      have hki : (k : Int) < (n : Int) := by omega
      have HN := Lib.hid (next_data (fun _ => true) p _ wr HA.out.2.1 (fun c => dataT_any c wr))
      have HS := Lib.hid (HSN.out k)
      have HPL := Lib.hid (HL0.out k)
      generalize md.many (md.next fun _ => true) k s = M at *
      obtain ⟨pre, st⟩ := M
      dsimp only at HN HS HPL
      generalize md.next (fun _ => true) st = Y at *
      obtain ⟨c, st'⟩ := Y
      dsimp only at HN HS
      obtain ⟨t0, tl, rfl⟩ : ∃ a b, tl = a :: b := by
        cases tl with
        | nil => simp at htl; omega
        | cons a b => exact ⟨a, b, rfl⟩
      have hx := c.toNat_lt
      go_wp2_with fail
      refine HN.out.mono ?_
      rintro e w2 ⟨rfl, hr2, hf2⟩
      have hrow2 := own_keep HA.out.1 (fun g _ hg hgs _ _ => hf2.block g hgs (show ¬ g = p by omega))
      obtain ⟨g1, g2⟩ := hrow2.stored k (.int .u8 (c.toNat : Nat))
      obtain ⟨cur, hcur⟩ := own_type hrow2 rfl
      have hfz := thaw (k := k) hcur
      have hlt2 : w.heap.size < w2.heap.size := heap_lt hcur
      have hset : (byC pre ++ t0 :: tl).set k (.int .u8 (c.toNat : Nat)) = byC (pre ++ [c]) ++ tl := by
        rw [List.set_append, if_neg (by rw [byC_len, HPL.out]; exact Nat.lt_irrefl _), byC_len, HPL.out, Nat.sub_self, List.set_cons_zero, byC_app, List.append_assoc]
        rfl
      have hcell := (hrow2.cellAt k (by omega)).trans (show (byC pre ++ t0 :: tl)[k]? = some t0 by rw [List.getElem?_append_right (by rw [byC_len, HPL.out]; exact Nat.le_refl _), byC_len, HPL.out, Nat.sub_self]; rfl)
      rw [hset] at g1
      have H3 := Lib.hid (And.intro g1 (And.intro (hr2.set ⟨w.heap.size, k, none⟩ (.int .u8 (c.toNat : Nat)) hp) ((HA.out.2.2.then hf2).setCell ⟨w.heap.size, k, none⟩ (.int .u8 (c.toNat : Nat)) (.inl (Nat.le_refl _)))))
      clear hrow2 g1 g2 hcur hset hr2 hf2 HN HA
      go_wp2_with fail
      go_roundg (n - (k + 1))
      case measure => omega
      case rel => exact ⟨k + 1, tl, by go_num, by omega, Nat.le_refl _, by rw [List.length_cons] at htl; omega, Lib.hid (by rw [HS.out]; exact H3.out)⟩
end Go.Proofs.Ytibpbnffennmeaa
