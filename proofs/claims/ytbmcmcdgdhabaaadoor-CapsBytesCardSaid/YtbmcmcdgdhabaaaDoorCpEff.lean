/- What instructions take and put: below, plainEffect, hostEffect, callEffect, Effect; points, behind, next. -/
import Derived.Test.YtbmcmcdgdhabaaaDoorCkMath
import Derived.Test.YtbmcmcdgdhabaaaDoorMdMem
import Derived.Laws.EntriesVeiled
namespace Go.Proofs.YtbmcmcdgdhabaaaDoor
open Go.RowKit
/-- the table of host calls -/
def HT (w : World) : Prop := ∀ k, k < 12 → w.cell? ⟨2, k, none⟩ = some (.int .i64 (ck.hostT.getD k 0))
theorem HT.below {w w' : World} (h : HT w) (hb : Below w.heap.size w w') : HT w' := fun k hk => by
  have h1 := h k hk
  have hlt := World.block_lt_of_cell? w _ h1
  dsimp only at hlt
  rw [← h1]
  exact cell_of_eq (hb.block _ hlt) k
theorem ret_three {a b c d : Int} {x y : Bool} (h : (a, b, x) = (c, d, y)) : Ending.returned (.tuple #[.int .i64 a, .int .i64 b, .bool x]) = .returned (.tuple #[.int .i64 c, .int .i64 d, .bool y]) := by
  injection h with h1 h2
  injection h2 with h2 h3
  rw [h1, h2, h3]
/-- what Effect and its parts answer -/
def EffAns (w w' : World) (e : Ending) (r : Int × Int × Bool) : Prop := e = .returned (.tuple #[.int .i64 r.1, .int .i64 r.2.1, .bool r.2.2]) ∧ Below w.heap.size w w'
theorem below_any (n b : Int) (w : World) : Calls Tryd.prog 26 #[.int .i64 n, .int .i64 b] w fun e w' => e = .returned (.bool (ck.below n b)) ∧ w' = w := by
  have HD : Hid (ck.below n b = decide (0 ≤ n ∧ n < b)) := Lib.hid rfl
  generalize ck.below n b = R at *
  by_cases h1 : 0 ≤ n
  · by_cases h2 : n < b
    · go_enter Tryd.func26, Tryd.ntmps26
      go_wp2
      go_ret
      exact ⟨ret_bool (by rw [HD.out]; exact (decide_eq_true ⟨h1, h2⟩).symm), rfl⟩
    · go_enter Tryd.func26, Tryd.ntmps26
      go_wp2
      go_ret
      exact ⟨ret_bool (by rw [HD.out]; simp; omega), rfl⟩
  · go_enter Tryd.func26, Tryd.ntmps26
    go_wp2
    go_ret
    exact ⟨ret_bool (by rw [HD.out]; simp; omega), rfl⟩
theorem ck.plain_out {op : Int} (h : op < 0 ∨ 29 < op ∨ 26 ≤ op ∧ op ≤ 28) : ck.plain op = (0, 0, false) := by
  unfold ck.plain
  repeat rw [if_neg (by omega)]
set_option maxHeartbeats 1600000 in
theorem plain_any (op : Int) (w : World) : Calls Tryd.prog 29 #[.int .i64 op] w fun e w' => EffAns w w' e (ck.plain op) := by
  by_cases hr : 0 ≤ op ∧ op ≤ 29
  case pos =>
    obtain ⟨k, hk, rfl⟩ : ∃ k : Nat, k ≤ 29 ∧ op = (k : Int) := ⟨op.toNat, by omega, by omega⟩
    have hs : k = 0 ∨ k = 1 ∨ k = 2 ∨ k = 3 ∨ k = 4 ∨ k = 5 ∨ k = 6 ∨ k = 7 ∨ k = 8 ∨ k = 9 ∨ k = 10 ∨ k = 11 ∨ k = 12 ∨ k = 13 ∨ k = 14 ∨ k = 15 ∨ k = 16 ∨ k = 17 ∨ k = 18 ∨ k = 19 ∨ k = 20 ∨ k = 21 ∨ k = 22 ∨ k = 23 ∨ k = 24 ∨ k = 25 ∨ k = 26 ∨ k = 27 ∨ k = 28 ∨ k = 29 := by omega
    clear hr hk
    rcases hs with rfl | rfl | rfl | rfl | rfl | rfl | rfl | rfl | rfl | rfl | rfl | rfl | rfl | rfl | rfl | rfl | rfl | rfl | rfl | rfl | rfl | rfl | rfl | rfl | rfl | rfl | rfl | rfl | rfl | rfl
    all_goals
      go_enter Tryd.func29, Tryd.ntmps29
      go_wp2
      go_ret3
      exact ⟨rfl, Below.refl _ _⟩
  case neg =>
    have hz : op < 0 ∨ 29 < op := by omega
    have hP := ck.plain_out (op := op) (by omega)
    rw [hP]
    have e0 : (op == 0) = false := by simp; omega
    have e1 : (op == 1) = false := by simp; omega
    have e2 : (op == 2) = false := by simp; omega
    have e3 : (op == 3) = false := by simp; omega
    have e4 : (op == 4) = false := by simp; omega
    have e5 : (op == 5) = false := by simp; omega
    have e6 : (op == 6) = false := by simp; omega
    have e19 : (op == 19) = false := by simp; omega
    have e20 : (op == 20) = false := by simp; omega
    have e21 : (op == 21) = false := by simp; omega
    have e22 : (op == 22) = false := by simp; omega
    have e23 : (op == 23) = false := by simp; omega
    have e24 : (op == 24) = false := by simp; omega
    have e25 : (op == 25) = false := by simp; omega
    have e29 : (op == 29) = false := by simp; omega
    clear hP hr
    rcases hz with hz | hz
    · have h7 : ¬ 7 ≤ op := by omega
      go_enter Tryd.func29, Tryd.ntmps29
      go_wp2
      go_ret3
      exact ⟨rfl, Below.refl _ _⟩
    · have h7 : 7 ≤ op := by omega
      have h18 : ¬ op ≤ 18 := by omega
      go_enter Tryd.func29, Tryd.ntmps29
      go_wp2
      go_ret3
      exact ⟨rfl, Below.refl _ _⟩
theorem host_any (n : Int) (w : World) (ht : HT w) : Calls Tryd.prog 28 #[.int .i64 n] w fun e w' => EffAns w w' e (ck.hostEff n) := by
  have HB := Lib.hid (fun w => below_any n 12 w)
  cases hb : ck.below n 12 with
  | false =>
    have hE : ck.hostEff n = (0, 0, false) := by unfold ck.hostEff; rw [hb]; rfl
    rw [hE]
    rw [hb] at HB
    clear hb hE
    go_enter Tryd.func28, Tryd.ntmps28
    go_wp2_with fail
    refine (HB.out _).mono ?_
    rintro e w' ⟨rfl, hw⟩
    replace hw := hw.symm
    subst hw
    go_wp2_with fail
    go_ret3
    exact ⟨rfl, Below.refl _ _⟩
  | true =>
    have hE : ck.hostEff n = (ck.hostT.getD n.toNat 0, 1, true) := by unfold ck.hostEff; rw [hb]; rfl
    rw [hE]
    obtain ⟨h0, h1⟩ := ck.below_iff.1 hb
    rw [hb] at HB
    obtain ⟨k, rfl⟩ : ∃ k : Nat, n = (k : Int) := ⟨n.toNat, by omega⟩
    have hk : k < 12 := by omega
    have hc := ht k hk
    have hlt := World.block_lt_of_cell? w _ hc
    dsimp only at hlt
    rw [Int.toNat_natCast]
    generalize ck.hostT.getD k 0 = T at *
    clear hb hE ht h0 h1
    go_enter Tryd.func28, Tryd.ntmps28
    go_wp2_with fail
    refine (HB.out _).mono ?_
    rintro e w' ⟨rfl, hw⟩
    replace hw := hw.symm
    subst hw
    go_wp2_with fail
    go_ret3
    exact ⟨rfl, Below.refl _ _⟩
abbrev modB (mem : Int) (VD VF : Value) : Obj := .cells #[.int .i64 mem, VD, VF] 54
theorem call_any (D : Nat → Prop) (m : md.Mod) (VD VF : Value) (n : Int) (w : World) (h : ModIn w D VD VF m) :
    Calls Tryd.prog 27 #[modV m VD VF, .int .i64 n] w fun e w' => EffAns w w' e (ck.callEff m n) := by
  obtain ⟨od, cd, of, cf, rfl, rfl, hd1, hd2, hf1, hf2⟩ := h.slices
  have hb1 := below_one w (modB m.mem (.slice od m.data.length cd) (.slice of m.funcs.length cf))
  have hn1 := heap_alloc_new w (modB m.mem (.slice od m.data.length cd) (.slice of m.funcs.length cf))
  have HM := Lib.hid (h.below hb1)
  have HX := Lib.hid (And.intro hn1 hb1)
  have HB := Lib.hid (fun w => below_any n m.funcs.length w)
  obtain ⟨mem, d, fs⟩ := m
  dsimp only at HM HX HB hf1 hf2 ⊢
  clear hb1 hn1 h hd1 hd2
  cases hb : ck.below n fs.length with
  | false =>
    have hE : ck.callEff ⟨mem, d, fs⟩ n = (0, 0, false) := by unfold ck.callEff; rw [hb]; rfl
    rw [hE]
    rw [hb] at HB
    clear hb hE HM
    generalize fs.length = nf at *
    generalize d.length = nd at *
    go_enter Tryd.func27, Tryd.ntmps27
    go_wp2_with fail
    refine (HB.out _).mono ?_
    rintro e w' ⟨rfl, hw⟩
    replace hw := hw.symm
    subst hw
    go_wp2_with fail
    go_ret3
    exact ⟨rfl, HX.out.2⟩
  | true =>
    obtain ⟨h0, h1⟩ := ck.below_iff.1 hb
    obtain ⟨k, rfl⟩ : ∃ k : Nat, n = (k : Int) := ⟨n.toNat, by omega⟩
    have hk : k < fs.length := by omega
    have hE : ck.callEff ⟨mem, d, fs⟩ (k : Int) = (fs[k].params, fs[k].results, true) := by unfold ck.callEff; rw [hb, if_pos rfl, Int.toNat_natCast, ck.fnAt_lt hk]
    rw [hE]
    rw [hb] at HB
    obtain ⟨b, off, oc, cc, rfl, -, hlb, p0, p1, -, -, -⟩ := FnsIn.cell HM.out.fns k hk
    dsimp only at p0 p1 hlb
    generalize fs[k].params = P0 at *
    generalize fs[k].results = P1 at *
    have k2 : (w.alloc (modB mem (.slice od d.length cd) (.slice (some ⟨b, off, none⟩) fs.length cf))).cell? ⟨w.heap.size, 2, none⟩ = some (.slice (some ⟨b, off, none⟩) fs.length cf) := (cell_of_heap HX.out.1).trans rfl
    clear hb hE HM h0 h1
    generalize fs.length = nf at *
    generalize d.length = nd at *
    go_enter Tryd.func27, Tryd.ntmps27
    go_wp2_with fail
    refine (HB.out _).mono ?_
    rintro e w' ⟨rfl, hw⟩
    replace hw := hw.symm
    subst hw
    go_upto_region 3 with fail
    go_quiet (fail)
    go_wp2_with fail
    go_ret3
    exact ⟨rfl, below_dN HX.out.2 _⟩
end Go.Proofs.YtbmcmcdgdhabaaaDoor
