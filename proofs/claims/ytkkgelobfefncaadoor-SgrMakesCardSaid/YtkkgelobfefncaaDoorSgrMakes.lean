/- SgrMakes returns true at every input: a right style's numbers make it of any style; what any numbers make is right. -/
import Derived.Test.YtkkgelobfefncaaDoorSgrAlive
namespace Go.Proofs.YtkkgelobfefncaaDoor
open Go.RowKit

set_option maxRecDepth 100000 in
set_option maxHeartbeats 1600000 in
theorem makes_any (f g a f' g' a' : Int) (o : Option Addr) (n cap : Nat) (zs : List Int) (w : World) (ht : Tabs w) (hx : Ints w o n cap zs) (hI : ∀ z ∈ zs, I64 z) :
    Calls Tryd.prog 5 #[.agg #[.int .i64 f, .int .i64 g, .int .i64 a], .agg #[.int .i64 f', .int .i64 g', .int .i64 a'], .slice o n cap] w fun e w' => e = .returned (.bool true) ∧ Below w.heap.size w w' := by
  have z1 := eqgst
  have z2 := run_eq_st
  have hT : Two w ((w.alloc (stObj ⟨f, g, a⟩)).alloc (stObj ⟨f', g', a'⟩)) w.heap.size ⟨f, g, a⟩ ⟨f', g', a'⟩ := by
    obtain ⟨h0, h1, h2⟩ := two_after (s := ⟨f, g, a⟩) (t := ⟨f', g', a'⟩) (Below.refl ((w.alloc (stObj ⟨f, g, a⟩)).alloc (stObj ⟨f', g', a'⟩)).heap.size ((w.alloc (stObj ⟨f, g, a⟩)).alloc (stObj ⟨f', g', a'⟩)))
    exact ⟨h0, h1, h2⟩
  have HT := Lib.hid ht; have HX := Lib.hid hx; have HI := Lib.hid hI
  have H0 := Lib.hid hT
  clear ht hx hI hT
  go_enter Tryd.func5, Tryd.ntmps5
  go_wp2_with fail
  refine (alive_any _ (HT.out.below H0.out.bel HT.out.two)).mono ?_
  rintro e w1 ⟨rfl, hb⟩
  have H1 := Lib.hid (H0.out.step hb)
  clear hb
  obtain ⟨k0, k1, k2, f0, f1, f2, u0⟩ := H1.out.st0.cells
  go_wp2_with fail
  refine (apply_any f g a _ _ _ zs _ (HX.out.below H1.out.bel) HI.out (HT.out.below H1.out.bel HT.out.two)).mono ?_
  rintro e w2 ⟨rfl, hb⟩
  have H2 := Lib.hid (H1.out.step hb)
  have hr := sg.apply_right ⟨f, g, a⟩ zs
  generalize sg.apply ⟨f, g, a⟩ zs = R at *
  have HR := Lib.hid hr
  clear hb hr k0 k1 k2 f0 f1 f2 u0
  go_wp2_with fail
  refine (right_any R.fg R.bg R.at_ _).mono ?_
  rintro e w3 ⟨rfl, hb⟩
  rw [show sg.right ⟨R.fg, R.bg, R.at_⟩ = true from HR.out]
  have H3 := Lib.hid (H2.out.step hb)
  clear hb
  obtain ⟨l0, l1, l2, g0, g1, g2, u1⟩ := H3.out.st1.cells
  go_wp2_with fail
  refine (params_any f' g' a' _ (HT.out.below H3.out.bel HT.out.two)).mono ?_
  rintro e w4 ⟨o4, n4, c4, rfl, hi4, hb⟩
  have H4 := Lib.hid (H3.out.step hb)
  have hn4 : n4 ≤ 16 := by have := hi4.len; have := sg.params_len ⟨f', g', a'⟩; omega
  have HI4 := Lib.hid hi4
  clear hb hi4 l0 l1 l2 g0 g1 g2 u1
  obtain ⟨k0, k1, k2, f0, f1, f2, u0⟩ := H4.out.st0.cells
  have hpI : Hid (∀ z ∈ sg.params ⟨f', g', a'⟩, I64 z) := Lib.hid (params_i64 _)
  go_wp2_with fail
  refine (apply_any f g a _ _ _ _ _ HI4.out hpI.out (HT.out.below H4.out.bel HT.out.two)).mono ?_
  rintro e w5 ⟨rfl, hb⟩
  rw [sg.apply_params]
  have H5 := Lib.hid (H4.out.step hb)
  clear hb k0 k1 k2 f0 f1 f2 u0
  have H6 := Lib.hid (H5.out.step (below_one w5 (stObj (sg.known ⟨f', g', a'⟩))))
  have HN : Hid (StAt (w5.alloc (stObj (sg.known ⟨f', g', a'⟩))) w5.heap.size (sg.known ⟨f', g', a'⟩)) := Lib.hid (StAt.new w5 _)
  have HK : Hid (sg.known ⟨f', g', a'⟩ = if sg.right ⟨f', g', a'⟩ then ⟨f', g', a'⟩ else sg.zero) := Lib.hid rfl
  generalize sg.known ⟨f', g', a'⟩ = K at *
  obtain ⟨l0, l1, l2, g0, g1, g2, u1⟩ := H5.out.st1.cells
  go_wp2_with fail
  refine (right_any f' g' a' _).mono ?_
  rintro e w6 ⟨rfl, hb⟩
  have H7 := Lib.hid (H6.out.step hb)
  have HN7 := Lib.hid (HN.out.below hb (HN.out.cells.lt))
  clear hb l0 l1 l2 g0 g1 g2 u1
  obtain ⟨l0, l1, l2, g0, g1, g2, u1⟩ := H7.out.st1.cells
  obtain ⟨k0, k1, k2, f0, f1, f2, u0⟩ := HN7.out.cells
  generalize hb : w5.heap.size = b5 at *
  clear hb
  generalize sg.right ⟨f', g', a'⟩ = p at *
  cases p
  · have hK : K = sg.zero := HK.out
    subst hK
    have q := eq3_self 0 0 0
    go_wp2_with fail
    go_ret
    exact ⟨rfl, H7.out.bel⟩
  · have hK : K = ⟨f', g', a'⟩ := HK.out
    subst hK
    have q := eq3_self f' g' a'
    have hn4i : (n4 : Int) ≤ 16 := by omega
    go_wp2_with fail
    go_ret
    exact ⟨rfl, H7.out.bel⟩
end Go.Proofs.YtkkgelobfefncaaDoor
