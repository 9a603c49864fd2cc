/- The bytes that lead from one style to another: the program's, the document's. -/
import Derived.Test.YtgkodjkhhmcnnaaDoorSgrAlive
import Derived.Test.YtgkodjkhhmcnnaaDoorSgrRefParams
import Derived.Test.YtgkodjkhhmcnnaaDoorEscRefCsi
import Derived.Test.YtgkodjkhhmcnnaaDoorEscAlive
import Derived.Deep.DeepCutAuto
namespace Go.Proofs.YtgkodjkhhmcnnaaDoor.S5
open Go.RowKit

theorem Ints.nums {w : World} {o : Option Addr} {n cap : Nat} {zs : List Int} (h : Ints w o n cap zs) : Nums .i64 w o n cap zs := ⟨h.len, h.le, h.max, h.at_⟩
theorem ints_of {w : World} {o : Option Addr} {n cap : Nat} {zs : List Int} (h : Nums .i64 w o n cap zs) : Ints w o n cap zs := ⟨h.len, h.le, h.max, h.at_⟩
/-- the bytes -/
def sg.btw (s t : sg.St) : List UInt8 := if sg.known s = sg.known t then [] else es.csiB 0 (sg.params t) 109
theorem sg.params_known (s : sg.St) : sg.params (sg.known s) = sg.params s := by unfold sg.params; rw [sg.known_known]
theorem eq3_dec (s t : sg.St) : eq3 s.fg s.bg s.at_ t.fg t.bg t.at_ = decide (s = t) := by
  unfold eq3
  cases s; cases t
  simp
/-- both stored over -/
theorem Two.put {w X : World} {B : Nat} {s0 t0 : sg.St} (h : Two w X B s0 t0) (s t : sg.St) :
    Two w ((((((X.setCell ⟨B, 0, none⟩ (.int .i64 s.fg)).setCell ⟨B, 1, none⟩ (.int .i64 s.bg)).setCell ⟨B, 2, none⟩ (.int .i64 s.at_)).setCell ⟨B + 1, 0, none⟩ (.int .i64 t.fg)).setCell ⟨B + 1, 1, none⟩ (.int .i64 t.bg)).setCell ⟨B + 1, 2, none⟩ (.int .i64 t.at_)) B s t :=
  ⟨(st_set3 h.st0 s.fg s.bg s.at_).kept (kept_set3 (B + 1) _ _ _) (by omega), st_set3 (h.st1.kept (kept_set3 B _ _ _) (by omega)) t.fg t.bg t.at_, below_set3 (below_set3 h.bel (Nat.le_refl _) _ _ _) (Nat.le_succ _) _ _ _⟩
theorem Two.put' {w X : World} {B : Nat} {s0 t0 : sg.St} (h : Two w X B s0 t0) (s t : sg.St) :
    Two w ((((((X.setCell ⟨B + 1, 0, none⟩ (.int .i64 t.fg)).setCell ⟨B + 1, 1, none⟩ (.int .i64 t.bg)).setCell ⟨B + 1, 2, none⟩ (.int .i64 t.at_)).setCell ⟨B, 0, none⟩ (.int .i64 s.fg)).setCell ⟨B, 1, none⟩ (.int .i64 s.bg)).setCell ⟨B, 2, none⟩ (.int .i64 s.at_)) B s t :=
  ⟨st_set3 (h.st0.kept (kept_set3 (B + 1) _ _ _) (by omega)) s.fg s.bg s.at_, (st_set3 h.st1 t.fg t.bg t.at_).kept (kept_set3 B _ _ _) (by omega), below_set3 (below_set3 h.bel (Nat.le_succ _) _ _ _) (Nat.le_refl _) _ _ _⟩
theorem two_new (w : World) (s t : sg.St) : Two w ((w.alloc (stObj s)).alloc (stObj t)) w.heap.size s t := by
  obtain ⟨h0, h1, h2⟩ := two_after (s := s) (t := t) (Below.refl ((w.alloc (stObj s)).alloc (stObj t)).heap.size ((w.alloc (stObj s)).alloc (stObj t)))
  exact ⟨h0, h1, h2⟩

set_option maxRecDepth 100000 in
set_option maxHeartbeats 1600000 in
theorem between_diff (f g a f' g' a' : Int) (w : World) (ht : Tabs w) (hp : PTab w) (hd : sg.known ⟨f, g, a⟩ ≠ sg.known ⟨f', g', a'⟩) :
    Calls Tryd.prog 12 #[.agg #[.int .i64 f, .int .i64 g, .int .i64 a], .agg #[.int .i64 f', .int .i64 g', .int .i64 a']] w fun e w' => ∃ ro rc, e = .returned (.slice ro (es.csiB 0 (sg.params ⟨f', g', a'⟩) 109).length rc) ∧ Bts w' ro (es.csiB 0 (sg.params ⟨f', g', a'⟩) 109).length rc (es.csiB 0 (sg.params ⟨f', g', a'⟩) 109) ∧ Below w.heap.size w w' := by
  have z1 := eqgst
  have z2 := run_eq_st
  have HA := Lib.hid (fun W => known_any f g a W)
  have HA' := Lib.hid (fun W => known_any f' g' a' W)
  rw [← sg.params_known ⟨f', g', a'⟩]
  generalize sg.known ⟨f, g, a⟩ = s at *
  generalize sg.known ⟨f', g', a'⟩ = t at *
  have z3 : eq3 s.fg s.bg s.at_ t.fg t.bg t.at_ = false := by rw [eq3_dec]; exact decide_eq_false hd
  have hT := two_new w ⟨f, g, a⟩ ⟨f', g', a'⟩
  have HTB := Lib.hid ht; have HPT := Lib.hid hp
  obtain ⟨L, hL⟩ : ∃ L, es.csiB 0 (sg.params t) 109 = L := ⟨_, rfl⟩
  rw [hL]
  have HL := Lib.hid hL
  clear hd ht hp hL
  go_enter Tryd.func12, Tryd.ntmps12
  go_upto_region 1 with fail
  generalize ((w.alloc (stObj ⟨f, g, a⟩)).alloc (stObj ⟨f', g', a'⟩)) = W at *
  generalize hB : w.heap.size = B at *
  have HB := Lib.hid hB; clear hB
  obtain ⟨k0, k1, k2, f0, f1, f2, u0⟩ := hT.st0.cells
  obtain ⟨l0, l1, l2, g0, g1, g2, u1⟩ := hT.st1.cells
  have HT := Lib.hid hT; clear hT
  have TD : Two w W.drew B ⟨f, g, a⟩ ⟨f', g', a'⟩ := ⟨HT.out.st0, HT.out.st1, HT.out.bel.drew⟩
  have HTD := Lib.hid TD; clear TD
  go_cut [] from 5 to 14 (fun wx => Hid (Two w wx B s t))
  case first =>
    go_region_with (first
      | (go_at_call_of 24 (Value.agg #[.int .i64 f, .int .i64 g, .int .i64 a]); refine (HA.out _).mono ?_; rintro e wa ⟨rfl, hba⟩; have ta := (by first | exact HTD.out.step hba | exact Two.step tb.out hba : Two w wa B ⟨f, g, a⟩ ⟨f', g', a'⟩); obtain ⟨ka0, ka1, ka2, fa0, fa1, fa2, ua0⟩ := ta.st0.cells; obtain ⟨la0, la1, la2, ga0, ga1, ga2, ua1⟩ := ta.st1.cells; replace ta := Lib.hid ta)
      | (go_at_call_of 24 (Value.agg #[.int .i64 f', .int .i64 g', .int .i64 a']); refine (HA'.out _).mono ?_; rintro e wb ⟨rfl, hbb⟩; have tb := (by first | exact HTD.out.step hbb | exact Two.step ta.out hbb : Two w wb B ⟨f, g, a⟩ ⟨f', g', a'⟩); obtain ⟨kb0, kb1, kb2, fb0, fb1, fb2, ub0⟩ := tb.st0.cells; obtain ⟨lb0, lb1, lb2, gb0, gb1, gb2, ub1⟩ := tb.st1.cells; replace tb := Lib.hid tb))
    all_goals
      go_wp2_with fail
      go_meet
      first
        | exact Lib.hid (tb.out.put s t)
        | exact Lib.hid (ta.out.put s t)
        | exact Lib.hid (tb.out.put' s t)
        | exact Lib.hid (ta.out.put' s t)
  case rest =>
  clear k0 k1 k2 f0 f1 f2 u0 l0 l1 l2 g0 g1 g2 u1 HTD HT HA HA'
  obtain ⟨k0, k1, k2, f0, f1, f2, u0⟩ := hcut.out.st0.cells
  obtain ⟨l0, l1, l2, g0, g1, g2, u1⟩ := hcut.out.st1.cells
  have HBW : Hid (Below w.heap.size w wc) := Lib.hid (by rw [HB.out]; exact hcut.out.bel)
  clear hcut
  go_wp2_with fail
  refine (params_any t.fg t.bg t.at_ _ (HTB.out.below HBW.out HTB.out.two)).mono ?_
  rintro e w2 ⟨o2, n2, c2, rfl, hi2, hb2⟩
  have HB2 := Lib.hid (HBW.out.trans (hb2.mono HBW.out.size))
  have HC := csiB_any 0 109 (sg.params t) o2 n2 c2 w2 hi2.nums (fun z hz => params_i64 t z hz) (HPT.out.step HB2.out) (by decide)
  rw [show (((109 : UInt8).toNat : Nat) : Int) = 109 from rfl, show ((0 : Nat) : Int) = 0 from rfl] at HC
  rw [HL.out] at HC
  replace HC := Lib.hid HC
  clear k0 k1 k2 f0 f1 f2 u0 l0 l1 l2 g0 g1 g2 u1 hi2 hb2
  go_wp2_with fail
  refine HC.out.mono ?_
  rintro e w3 ⟨ro, rc, rfl, hO, hb3⟩
  have HO := Lib.hid hO.nums
  have HB3 := Lib.hid (HB2.out.trans (hb3.mono HB2.out.size))
  clear hO hb3 HC
  go_wp2_with fail
  go_ret
  exact ⟨ro, rc, rfl, HO.out, HB.out ▸ HB3.out⟩
theorem between_any (f g a f' g' a' : Int) (w : World) (ht : Tabs w) (hp : PTab w) :
    Calls Tryd.prog 12 #[.agg #[.int .i64 f, .int .i64 g, .int .i64 a], .agg #[.int .i64 f', .int .i64 g', .int .i64 a']] w fun e w' => ∃ ro rc, e = .returned (.slice ro (sg.btw ⟨f, g, a⟩ ⟨f', g', a'⟩).length rc) ∧ Bts w' ro (sg.btw ⟨f, g, a⟩ ⟨f', g', a'⟩).length rc (sg.btw ⟨f, g, a⟩ ⟨f', g', a'⟩) ∧ Below w.heap.size w w' := by
  unfold sg.btw
  by_cases h : sg.known ⟨f, g, a⟩ = sg.known ⟨f', g', a'⟩
  · rw [if_pos h]
    refine (between_same f g a f' g' a' w h).mono ?_
    rintro e w' ⟨rfl, hb⟩
    exact ⟨none, 0, rfl, Nums.nil _ _, hb⟩
  · rw [if_neg h]
    exact between_diff f g a f' g' a' w ht hp h
end Go.Proofs.YtgkodjkhhmcnnaaDoor.S5
