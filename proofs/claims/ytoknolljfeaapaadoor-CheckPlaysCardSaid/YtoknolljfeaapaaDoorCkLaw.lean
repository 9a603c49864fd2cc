/- What layer 13's laws call: ins, mod, SameInts. -/
import Derived.Test.YtoknolljfeaapaaDoorCkHs
namespace Go.Proofs.YtoknolljfeaapaaDoor
open Go.RowKit
abbrev InsAns (w w' : World) (e : Ending) (op n : Int) : Prop := e = .returned (.agg #[.int .i64 op, .int .i64 n]) ∧ Below w.heap.size w w'
set_option maxRecDepth 100000 in
theorem ins13_any (op n : Int) (w : World) : Calls Tryd.prog 28 #[.int .i64 op, .int .i64 n] w fun e w' => InsAns w w' e op n := by
  have HF := Lib.hid (And.intro (heap_alloc_new w (insB op n)) (below_one w (insB op n)))
  go_enter Tryd.func28, Tryd.ntmps28
  go_wp2_with fail
  refine bodyPost_ret (results_cell_row rfl _ _ w.heap.size 59 _ (0, 0) _ rfl HF.out.1 Tryd.underlying59 rfl (by kernel_rfl)) rfl ?_
  exact ⟨rfl, HF.out.2⟩
/-- a module of one function with 3 Params -/
def ck.mone (l : List md.Ins) : md.Mod := ⟨0, [], [⟨3, 0, 0, l⟩]⟩
/-- what mod answers -/
def ModAns (w w' : World) (e : Ending) (l : List md.Ins) : Prop := ∃ of, e = .returned (.agg #[.int .i64 0, .slice none 0 0, .slice of 1 1]) ∧ ModIn w' (fun k => k < w'.heap.size) (.slice none 0 0) (.slice of 1 1) (ck.mone l) ∧ Below w.heap.size w w'
abbrev modZ0 : Obj := .cells #[.int .i64 0, .slice none 0 0, .slice none 0 0] 25
set_option maxRecDepth 100000 in
theorem mod13_any (V : Value) (l : List md.Ins) (w : World) (h : InsIn w (fun k => k < w.heap.size) V l) : Calls Tryd.prog 27 #[V] w fun e w' => ModAns w w' e l := by
  obtain ⟨o, cap, rfl, hl1, hl2, -⟩ := id h
  have hx := two_boxes w (.cells #[.int .i64 0, .slice none 0 0, .slice (some ⟨w.heap.size + 1, 0, none⟩) 1 1] 25) (.cells #[.int .i64 3, .int .i64 0, .int .i64 0, .slice o l.length cap] 72)
  have HX := Lib.hid hx.1
  have HF := Lib.hid (show ModAns w ((w.alloc (.cells #[.int .i64 0, .slice none 0 0, .slice (some ⟨w.heap.size + 1, 0, none⟩) 1 1] 25)).alloc (.cells #[.int .i64 3, .int .i64 0, .int .i64 0, .slice o l.length cap] 72)) (.returned (.agg #[.int .i64 0, .slice none 0 0, .slice (some ⟨w.heap.size + 1, 0, none⟩) 1 1])) l from by
    obtain ⟨-, hf, hbel⟩ := hx
    refine ⟨_, rfl, ⟨RowIn.nil _ _ _, [.int .i64 3, .int .i64 0, .int .i64 0, .slice o l.length cap], ?_, ?_⟩, hbel⟩
    · refine ⟨_, _, rfl, Nat.le_refl _, (show 1 ≤ _ by decide), rfl, .inr ⟨_, 0, rfl, heap_lt hf, heap_lt hf, fun k v hv => ?_⟩⟩
      rw [Nat.zero_add, cell_of_heap hf]
      simpa using hv
    · refine ⟨_, [], rfl, ⟨_, rfl, ?_⟩, rfl⟩
      refine RowIn.keep h (fun k _ hk => hbel.block k hk) hbel.size (fun k _ hk => Nat.lt_of_lt_of_le hk hbel.size))
  clear hx h
  go_enter Tryd.func27, Tryd.ntmps27
  go_wp2_with fail
  refine bodyPost_ret (results_cell_row rfl _ _ w.heap.size 25 _ (0, 0) _ rfl HX.out Tryd.underlying25 rfl (by kernel_rfl)) rfl ?_
  exact HF.out
theorem inC_take {xs ys : List Int} {k : Nat} (h : xs.take k = ys.take k) (hx : k < xs.length) (hy : k < ys.length) (e : xs[k] = ys[k]) : xs.take (k + 1) = ys.take (k + 1) := by
  rw [List.take_add_one, List.take_add_one, h, List.getElem?_eq_getElem hx, List.getElem?_eq_getElem hy, e]
theorem inC_all {xs ys : List Int} {n : Nat} (hx : xs.length = n) (hy : ys.length = n) (h : xs.take n = ys.take n) : xs = ys := by
  rwa [List.take_of_length_le (by omega), List.take_of_length_le (by omega)] at h
abbrev NsIn (w : World) (D : Nat → Prop) (V : Value) (l : List Int) : Prop := RowIn w D V 1 l.length (inC l)
theorem NsIn.cell {w : World} {D : Nat → Prop} {o : Option Addr} {m cap : Nat} {l : List Int} (h : NsIn w D (.slice o m cap) l) (k : Nat) (hk : k < l.length) : ∃ b off, o = some ⟨b, off, none⟩ ∧ b < w.heap.size ∧ w.cell? ⟨b, off + k, none⟩ = some (.int .i64 l[k]) := by
  obtain ⟨b, off, e, -, hlt, hc⟩ := RowIn.at_ h k hk
  exact ⟨b, off, e, hlt, hc k _ (by simp [inC, hk])⟩
set_option maxRecDepth 100000 in
set_option maxHeartbeats 1600000 in
theorem sameInts_any (D D' : Nat → Prop) (V V' : Value) (xs ys : List Int) (w : World) (hx : NsIn w D V xs) (hy : NsIn w D' V' ys) :
    Calls Tryd.prog 14 #[V, V'] w fun e w' => BoolAns w w' e (decide (xs = ys)) := by
  obtain ⟨R, hR⟩ : ∃ R, decide (xs = ys) = R := ⟨_, rfl⟩
  rw [hR]
  have HR := Lib.hid hR
  obtain ⟨o, cap, rfl, hle, hm, -⟩ := id hx
  obtain ⟨o', cap', rfl, hle', hm', -⟩ := id hy
  have HX := Lib.hid hx
  have HY := Lib.hid hy
  clear hR
  by_cases hn : xs.length = ys.length
  · clear hx hy
    rw [← hn] at hle'
    obtain ⟨n, hn0⟩ : ∃ n, xs.length = n := ⟨_, rfl⟩
    have HNX := Lib.hid hn0
    have HNY := Lib.hid (hn.symm.trans hn0)
    rw [← hn, hn0]
    rw [hn0] at hle hle'
    clear hn hn0
    go_enter Tryd.func14, Tryd.ntmps14
    go_wp2_with fail
    go_loopg [5] n (fun gg s5 wr => ∃ k : Nat, s5 = .int .i64 k ∧ k ≤ n ∧ n - k ≤ gg ∧ Hid (xs.take k = ys.take k ∧ Below w.heap.size w wr))
    case atStart => exact ⟨0, rfl, Nat.zero_le _, by omega, Lib.hid ⟨rfl, Below.refl _ _⟩⟩
    case round =>
      obtain ⟨k, rfl, hk, hgg, HA⟩ := hrel
      by_cases hlt : k < n
      · have hkx : k < xs.length := by rw [HNX.out]; exact hlt
        have hky : k < ys.length := by rw [HNY.out]; exact hlt
        obtain ⟨b, off, rfl, hb, k0⟩ := NsIn.cell (RowIn.below HX.out HA.out.2) k hkx
        obtain ⟨b', off', rfl, hb', k0'⟩ := NsIn.cell (RowIn.below HY.out HA.out.2) k hky
        have hst := fun h => inC_take (k := k) HA.out.1 hkx hky h
        have hne : xs[k] ≠ ys[k] → decide (xs = ys) = false := fun h => decide_eq_false (fun e => h (by simp only [e]))
        generalize xs[k] = x at *
        generalize ys[k] = y at *
        have HS := Lib.hid hst
        have HN := Lib.hid hne
        clear hst hne
        have hki : (k : Int) < (n : Int) := by omega
        by_cases e : x = y
        · have HSS := Lib.hid (And.intro (HS.out e) HA.out.2)
          subst e
          go_wp2_with fail
          go_quiet (fail)
          go_wp2_with fail
          go_roundg (n - (k + 1))
          case measure => omega
          case rel => exact ⟨k + 1, by go_num, by omega, Nat.le_refl _, Lib.hid ⟨HSS.out.1, below_dN HSS.out.2 _⟩⟩
        · have HNN := Lib.hid (HN.out e)
          have e2 : (x != y) = true := by simpa using e
          have e1 : (x == y) = false := by simpa using e
          clear e
          go_wp2_with fail
          go_quiet (fail)
          go_wp2_with fail
          go_ret
          exact BoolAns.eq ⟨ret_bool HNN.out.symm, below_dN HA.out.2 _⟩ HR.out
      · obtain rfl : k = n := by omega
        have HD := Lib.hid (show decide (xs = ys) = true from decide_eq_true (inC_all HNX.out HNY.out HA.out.1))
        go_wp2_with fail
        go_ret
        exact BoolAns.eq ⟨ret_bool HD.out.symm, HA.out.2⟩ HR.out
  · have HD := Lib.hid (show decide (xs = ys) = false from decide_eq_false (fun e => hn (by rw [e])))
    have hi : ((xs.length : Int) != (ys.length : Int)) = true := by simp; omega
    have hi2 : ((xs.length : Int) == (ys.length : Int)) = false := by simp; omega
    clear hx hy
    generalize xs.length = n at *
    generalize ys.length = m at *
    go_enter Tryd.func14, Tryd.ntmps14
    go_wp2_with fail
    go_ret
    exact BoolAns.eq ⟨ret_bool HD.out.symm, Below.refl _ _⟩ HR.out
end Go.Proofs.YtoknolljfeaapaaDoor
