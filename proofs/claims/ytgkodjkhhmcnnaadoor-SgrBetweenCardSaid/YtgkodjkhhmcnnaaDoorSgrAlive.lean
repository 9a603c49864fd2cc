/- The document's examples of layer 5 hold: alive returns true, in every memory. -/
import Derived.Test.YtgkodjkhhmcnnaaDoorSgrParams2
import Derived.Laws.StructEq
namespace Go.Proofs.YtgkodjkhhmcnnaaDoor.S5
open Go.RowKit

/-- are two styles the same? -/
def eq3 (a b c a' b' c' : Int) : Bool := decide (a = a' ∧ b = b' ∧ c = c')
theorem eq3_self (a b c : Int) : eq3 a b c a b c = true := by simp [eq3]
theorem hSst : Tryd.prog.underlying 48 = some (.struct (Tryd.prog.fieldsOf 48)) := by kernel_rfl
theorem hpst : Tryd.prog.stoodInHeld 48 = false := by kernel_rfl
theorem eqgst : Tryd.prog.eqGuardType Tryd.prog.depth 48 = false := by kernel_rfl
theorem run_eq_st (a b c a' b' c' : Int) (w : World) :
    (binOp .eql 48 (.agg #[.int .i64 a, .int .i64 b, .int .i64 c]) (.agg #[.int .i64 a', .int .i64 b', .int .i64 c'])).run Tryd.prog w = .ok (.bool (eq3 a b c a' b' c')) w := by
  have u3 := Tryd.underlying3
  have a3 := Tryd.isAgg3
  have z3 := Tryd.sizeOf3
  rw [run_eql_struct, show (10000 : Nat) = 9999 + 1 from rfl, run_equalIn_agg w 9999 48 _ _ hSst hpst]
  simp only [Program.fieldsOf, Tryd.underlying48]
  go_simp
  by_cases h1 : a = a' <;> by_cases h2 : b = b' <;> by_cases h3 : c = c' <;> simp [eq3, h1, h2, h3]
theorem run_ne_st (a b c a' b' c' : Int) (w : World) :
    (binOp .neq 48 (.agg #[.int .i64 a, .int .i64 b, .int .i64 c]) (.agg #[.int .i64 a', .int .i64 b', .int .i64 c'])).run Tryd.prog w = .ok (.bool (!(eq3 a b c a' b' c'))) w := by
  have u3 := Tryd.underlying3
  have a3 := Tryd.isAgg3
  have z3 := Tryd.sizeOf3
  rw [run_neq_struct, show (10000 : Nat) = 9999 + 1 from rfl, run_equalIn_agg w 9999 48 _ _ hSst hpst]
  simp only [Program.fieldsOf, Tryd.underlying48]
  go_simp
  by_cases h1 : a = a' <;> by_cases h2 : b = b' <;> by_cases h3 : c = c' <;> simp [eq3, h1, h2, h3]

/-- two styles beside each other, whatever is called -/
structure Two (w X : World) (B : Nat) (s t : sg.St) : Prop where
  st0 : StAt X B s
  st1 : StAt X (B + 1) t
  bel : Below B w X
theorem Two.step {w X X' : World} {B : Nat} {s t : sg.St} (h : Two w X B s t) (hb : Below X.heap.size X X') : Two w X' B s t :=
  ⟨h.st0.below hb h.st0.cells.lt, h.st1.below hb h.st1.cells.lt, h.bel.trans (hb.mono (Nat.le_of_lt h.st0.cells.lt))⟩
set_option maxHeartbeats 1600000 in
theorem between_same (f g a f' g' a' : Int) (w : World) (hsame : sg.known ⟨f, g, a⟩ = sg.known ⟨f', g', a'⟩) :
    Calls Tryd.prog 12 #[.agg #[.int .i64 f, .int .i64 g, .int .i64 a], .agg #[.int .i64 f', .int .i64 g', .int .i64 a']] w fun e w' => e = .returned (.slice none 0 0) ∧ Below w.heap.size w w' := by
  have z1 := eqgst
  have z2 := run_eq_st
  have hA := fun W => known_any f g a W
  have hA' := fun W => known_any f' g' a' W
  rw [← hsame] at hA'
  generalize sg.known ⟨f, g, a⟩ = s at *
  have z3 := eq3_self s.fg s.bg s.at_
  have HA := Lib.hid hA; have HA' := Lib.hid hA'
  clear hA hA' hsame
  have hT : Two w (((w.alloc (stObj ⟨f, g, a⟩)).alloc (stObj ⟨f', g', a'⟩))) w.heap.size ⟨f, g, a⟩ ⟨f', g', a'⟩ := by
    obtain ⟨h0, h1, h2⟩ := two_after (s := ⟨f, g, a⟩) (t := ⟨f', g', a'⟩) (Below.refl ((w.alloc (stObj ⟨f, g, a⟩)).alloc (stObj ⟨f', g', a'⟩)).heap.size ((w.alloc (stObj ⟨f, g, a⟩)).alloc (stObj ⟨f', g', a'⟩)))
    exact ⟨h0, h1, h2⟩
  go_enter Tryd.func12, Tryd.ntmps12
  go_wp2_with fail
  generalize ((w.alloc (stObj ⟨f, g, a⟩)).alloc (stObj ⟨f', g', a'⟩)) = W at *
  generalize hB : w.heap.size = B at *
  have HB := Lib.hid hB; clear hB
  obtain ⟨k0, k1, k2, f0, f1, f2, u0⟩ := hT.st0.cells
  obtain ⟨l0, l1, l2, g0, g1, g2, u1⟩ := hT.st1.cells
  have HT := Lib.hid hT; clear hT
  have TD : Two w W.drew B ⟨f, g, a⟩ ⟨f', g', a'⟩ := ⟨HT.out.st0, HT.out.st1, HT.out.bel.drew⟩
  have HTD := Lib.hid TD; clear TD
  go_region_with (first
    | (go_at_call_of 24 (Value.agg #[.int .i64 f, .int .i64 g, .int .i64 a]); refine (HA.out _).mono ?_; rintro e wa ⟨rfl, hba⟩; have ta := (by first | exact HTD.out.step hba | exact Two.step tb.out hba : Two w wa B ⟨f, g, a⟩ ⟨f', g', a'⟩); obtain ⟨ka0, ka1, ka2, fa0, fa1, fa2, ua0⟩ := ta.st0.cells; obtain ⟨la0, la1, la2, ga0, ga1, ga2, ua1⟩ := ta.st1.cells; replace ta := Lib.hid ta)
    | (go_at_call_of 24 (Value.agg #[.int .i64 f', .int .i64 g', .int .i64 a']); refine (HA'.out _).mono ?_; rintro e wb ⟨rfl, hbb⟩; have tb := (by first | exact HTD.out.step hbb | exact Two.step ta.out hbb : Two w wb B ⟨f, g, a⟩ ⟨f', g', a'⟩); obtain ⟨kb0, kb1, kb2, fb0, fb1, fb2, ub0⟩ := tb.st0.cells; obtain ⟨lb0, lb1, lb2, gb0, gb1, gb2, ub1⟩ := tb.st1.cells; replace tb := Lib.hid tb))
  all_goals
    go_wp2_with fail
    go_ret
    refine ⟨rfl, ?_⟩
    first
      | exact below_set3 (below_set3 tb.out.bel (Nat.le_refl _) _ _ _) (Nat.le_succ _) _ _ _
      | exact below_set3 (below_set3 ta.out.bel (Nat.le_refl _) _ _ _) (Nat.le_succ _) _ _ _
      | exact below_set3 (below_set3 tb.out.bel (Nat.le_succ _) _ _ _) (Nat.le_refl _) _ _ _
      | exact below_set3 (below_set3 ta.out.bel (Nat.le_succ _) _ _ _) (Nat.le_refl _) _ _ _
      | (rw [HB.out]; exact below_set3 (below_set3 tb.out.bel (Nat.le_refl _) _ _ _) (Nat.le_succ _) _ _ _)
      | (rw [HB.out]; exact below_set3 (below_set3 ta.out.bel (Nat.le_refl _) _ _ _) (Nat.le_succ _) _ _ _)

theorem marksP_small (a : Int) : ∀ z ∈ sg.marksP a, 0 ≤ z ∧ z ≤ 7 := by
  intro z hz
  unfold sg.marksP at hz
  simp only [List.mem_append] at hz
  rcases hz with (((hz | hz) | hz) | hz) | hz <;> (split at hz <;> simp at hz <;> omega)
theorem colourP_small {c : Int} (base : Int) (hb : 0 ≤ base ∧ base ≤ 100) (hc : sg.rightC c = true) : ∀ z ∈ sg.colourP c base, 0 ≤ z ∧ z ≤ 1000 := by
  intro z hz
  rw [sg.rightC_iff] at hc
  unfold sg.colourP at hz
  split at hz
  · simp at hz
  split at hz
  · simp at hz; omega
  split at hz
  · simp at hz; omega
  · simp at hz; omega
theorem params_i64 (s : sg.St) : ∀ z ∈ sg.params s, I64 z := by
  intro z hz
  have hr := sg.right_known s
  simp only [sg.right, Bool.and_eq_true] at hr
  unfold sg.params at hz
  simp only [List.mem_append, List.mem_cons] at hz
  unfold I64
  rcases hz with (hz | hz) | hz
  · rcases hz with rfl | h
    · omega
    · have := marksP_small _ z h; omega
  · have := colourP_small 30 (by decide) hr.1.1.1 z hz; omega
  · have := colourP_small 40 (by decide) hr.1.1.2 z hz; omega
/-- Apply by numbers that are written out -/
theorem apply_lit (f g a : Int) (zs : List Int) (n : Nat) (W : World) (hn : W.heap.size = n) (ht : Tabs W) (hl : zs.length ≤ 1000) (hI : ∀ z ∈ zs, I64 z) :
    Calls Tryd.prog 16 #[.agg #[.int .i64 f, .int .i64 g, .int .i64 a], .slice (some ⟨n, 0, none⟩) zs.length zs.length] (W.alloc (.cells (zs.map (Value.int .i64)).toArray 3)) fun e w' => e = .returned (stV (sg.apply ⟨f, g, a⟩ zs)) ∧ Below W.heap.size W w' := by
  subst hn
  refine (apply_any f g a _ _ _ zs _ (Ints.new W 3 zs hl) hI (ht.below ((Below.refl _ _).alloc (Nat.le_refl _) _) ht.two)).mono fun e w' ⟨he, hb⟩ => ⟨he, ((Below.refl _ _).alloc (Nat.le_refl _) _).trans (hb.mono (by simp))⟩

/-- styles that lie where they lay, whatever is called -/
def All (w X : World) (L : List (Nat × sg.St)) : Prop := Below w.heap.size w X ∧ ∀ p ∈ L, StAt X p.1 p.2
theorem All.call {w X X' : World} {L : List (Nat × sg.St)} (h : All w X L) (hb : Below X.heap.size X X') : All w X' L :=
  ⟨h.1.trans (hb.mono h.1.size), fun p hp => (h.2 p hp).below hb (h.2 p hp).cells.lt⟩
theorem All.new {w X : World} {L : List (Nat × sg.St)} (h : All w X L) (s : sg.St) : All w (X.alloc (stObj s)) ((X.heap.size, s) :: L) :=
  ⟨h.1.alloc h.1.size _, fun p hp => by
    rcases List.mem_cons.1 hp with rfl | hp
    · exact StAt.new X s
    · exact (h.2 p hp).kept ((Kept.refl X (fun _ => False)).alloc _) (fun h => h)⟩
theorem All.tabs {w X : World} {L : List (Nat × sg.St)} (h : All w X L) (ht : Tabs w) : Tabs X := ht.below h.1 ht.two
theorem All.head {w X : World} {L : List (Nat × sg.St)} {p : Nat × sg.St} (h : All w X (p :: L)) : StAt X p.1 p.2 := h.2 p (by simp)

set_option maxRecDepth 100000 in
set_option maxHeartbeats 1600000 in
theorem alive_any (w : World) (ht : Tabs w) : Calls Tryd.prog 11 #[] w fun e w' => e = .returned (.bool true) ∧ Below w.heap.size w w' := by
  have z1 := eqgst
  have z2 := run_eq_st
  have HT := Lib.hid ht; clear ht
  have h0 : All w (w.alloc (stObj sg.zero)) [(w.heap.size, sg.zero)] := All.new (L := []) ⟨Below.refl _ _, by simp⟩ sg.zero
  obtain ⟨k0, k1, k2, f0, f1, f2, u0⟩ := h0.head.cells
  have H0p := Lib.hid h0; clear h0
  go_enter Tryd.func11, Tryd.ntmps11
  go_wp2_with fail
  refine (apply_lit 0 0 0 [1, 31] _ (w.alloc (stObj sg.zero)) ?hn1 (H0p.out.tabs HT.out) (by simp) (by intro z hz; simp at hz; unfold I64; omega)).mono ?_
  case hn1 => simp
  rintro e w1 ⟨rfl, hb⟩
  rw [show sg.apply ⟨0, 0, 0⟩ [1, 31] = (⟨2, 0, 1⟩ : sg.St) by decide]
  have H1 := Lib.hid (H0p.out.call hb)
  have H1p := Lib.hid (H1.out.new (⟨2, 0, 1⟩ : sg.St))
  clear k0 k1 k2 f0 f1 f2 u0 hb
  obtain ⟨k0, k1, k2, f0, f1, f2, u0⟩ := (H1.out.2 (w.heap.size, sg.zero) (by simp)).cells
  go_wp2_with fail
  refine (apply_lit 0 0 0 [38, 5, 200] _ (w1.alloc (stObj (⟨2, 0, 1⟩ : sg.St))) ?hn2 (H1p.out.tabs HT.out) (by simp) (by intro z hz; simp at hz; unfold I64; omega)).mono ?_
  case hn2 => simp
  rintro e w2 ⟨rfl, hb⟩
  rw [show sg.apply ⟨0, 0, 0⟩ [38, 5, 200] = (⟨201, 0, 0⟩ : sg.St) by decide]
  have H2 := Lib.hid (H1p.out.call hb)
  have H2p := Lib.hid (H2.out.new (⟨201, 0, 0⟩ : sg.St))
  clear k0 k1 k2 f0 f1 f2 u0 hb
  obtain ⟨k0, k1, k2, f0, f1, f2, u0⟩ := (H2.out.2 (w.heap.size, sg.zero) (by simp)).cells
  go_wp2_with fail
  refine (apply_lit 0 0 0 [38, 2, 1, 2, 3] _ (w2.alloc (stObj (⟨201, 0, 0⟩ : sg.St))) ?hn3 (H2p.out.tabs HT.out) (by simp) (by intro z hz; simp at hz; unfold I64; omega)).mono ?_
  case hn3 => simp
  rintro e w3 ⟨rfl, hb⟩
  rw [show sg.apply ⟨0, 0, 0⟩ [38, 2, 1, 2, 3] = (⟨16843267, 0, 0⟩ : sg.St) by decide]
  have H3 := Lib.hid (H2p.out.call hb)
  have H3p := Lib.hid (H3.out.new (⟨16843267, 0, 0⟩ : sg.St))
  clear k0 k1 k2 f0 f1 f2 u0 hb
  obtain ⟨k0, k1, k2, f0, f1, f2, u0⟩ := (H3.out.2 (w.heap.size, sg.zero) (by simp)).cells
  go_wp2_with fail
  refine (apply_lit 0 0 0 [38, 5, 300, 1] _ (w3.alloc (stObj (⟨16843267, 0, 0⟩ : sg.St))) ?hn4 (H3p.out.tabs HT.out) (by simp) (by intro z hz; simp at hz; unfold I64; omega)).mono ?_
  case hn4 => simp
  rintro e w4 ⟨rfl, hb⟩
  rw [show sg.apply ⟨0, 0, 0⟩ [38, 5, 300, 1] = (⟨0, 0, 1⟩ : sg.St) by decide]
  have H4 := Lib.hid (H3p.out.call hb)
  have H4p := Lib.hid (H4.out.new (⟨0, 0, 1⟩ : sg.St))
  clear k0 k1 k2 f0 f1 f2 u0 hb
  obtain ⟨k0, k1, k2, f0, f1, f2, u0⟩ := (H4.out.2 (w.heap.size, sg.zero) (by simp)).cells
  go_wp2_with fail
  refine (apply_lit 0 0 0 [38, 7, 1] _ (w4.alloc (stObj (⟨0, 0, 1⟩ : sg.St))) ?hn5 (H4p.out.tabs HT.out) (by simp) (by intro z hz; simp at hz; unfold I64; omega)).mono ?_
  case hn5 => simp
  rintro e w5 ⟨rfl, hb⟩
  rw [show sg.apply ⟨0, 0, 0⟩ [38, 7, 1] = (sg.zero : sg.St) by decide]
  have H5 := Lib.hid (H4p.out.call hb)
  have H5p := Lib.hid (H5.out.new (sg.zero : sg.St))
  clear k0 k1 k2 f0 f1 f2 u0 hb
  obtain ⟨k0, k1, k2, f0, f1, f2, u0⟩ := (H5.out.2 (w.heap.size, sg.zero) (by simp)).cells
  obtain ⟨c10, c11, c12, d10, d11, d12, v1⟩ := (H5.out.2 (w1.heap.size, (⟨2, 0, 1⟩ : sg.St)) (by simp)).cells
  obtain ⟨c20, c21, c22, d20, d21, d22, v2⟩ := (H5.out.2 (w2.heap.size, (⟨201, 0, 0⟩ : sg.St)) (by simp)).cells
  obtain ⟨c30, c31, c32, d30, d31, d32, v3⟩ := (H5.out.2 (w3.heap.size, (⟨16843267, 0, 0⟩ : sg.St)) (by simp)).cells
  obtain ⟨c40, c41, c42, d40, d41, d42, v4⟩ := (H5.out.2 (w4.heap.size, (⟨0, 0, 1⟩ : sg.St)) (by simp)).cells
  have q1 := eq3_self 2 0 1
  have q2 := eq3_self 0 0 1
  have q3 := eq3_self 0 0 0
  go_wp2_with fail
  refine (params_any 0 2 1 _ (H5p.out.tabs HT.out)).mono ?_
  rintro e w6 ⟨o6, n6, c6, rfl, hi6, hb6⟩
  rw [show sg.params ⟨0, 2, 1⟩ = [0, 1, 41] by decide] at hi6
  obtain rfl : n6 = 3 := hi6.len.symm
  have H6 := Lib.hid (H5p.out.call hb6)
  have HI6 := Lib.hid hi6
  clear hi6 hb6 k0 k1 k2 f0 f1 f2 u0 c10 c11 c12 d10 d11 d12 v1 c20 c21 c22 d20 d21 d22 v2 c30 c31 c32 d30 d31 d32 v3 c40 c41 c42 d40 d41 d42 v4
  obtain ⟨c10, c11, c12, d10, d11, d12, v1⟩ := (H6.out.2 (w1.heap.size, (⟨2, 0, 1⟩ : sg.St)) (by simp)).cells
  go_wp2_with fail
  refine (same_any o6 3 c6 [0, 1, 41] _ 3 3 [0, 1, 41] _ (HI6.out.below (below_one w6 _)) (Ints.new w6 _ [0, 1, 41] (by simp))).mono ?_
  rintro e w7 ⟨rfl, nq, rfl⟩
  rw [show decide (([0, 1, 41] : List Int) = [0, 1, 41]) = true by decide]
  have H7 : Hid (All w ((w6.alloc (.cells (([0, 1, 41] : List Int).map (Value.int .i64)).toArray 3)).drewN nq) [(w1.heap.size, (⟨2, 0, 1⟩ : sg.St))]) := by
    refine Lib.hid (All.call (X := w6) ⟨H6.out.1, fun p hp => ?_⟩ (below_drewN (below_one w6 _) nq))
    obtain rfl := List.mem_singleton.1 hp
    exact H6.out.2 (w1.heap.size, (⟨2, 0, 1⟩ : sg.St)) (by simp)
  go_wp2_with fail
  refine (right_any 2 0 1 _).mono ?_
  rintro e w8 ⟨rfl, hb8⟩
  rw [show sg.right ⟨2, 0, 1⟩ = true by decide]
  have H8 := Lib.hid (H7.out.call hb8)
  clear hb8 c10 c11 c12 d10 d11 d12 v1
  obtain ⟨c10, c11, c12, d10, d11, d12, v1⟩ := H8.out.head.cells
  go_wp2_with fail
  refine (between_same 2 0 1 2 0 1 _ rfl).mono ?_
  rintro e w9 ⟨rfl, hb9⟩
  have H9 := Lib.hid (H8.out.call hb9).1
  clear hb9
  go_wp2_with fail
  go_ret
  exact ⟨rfl, H9.out⟩
end Go.Proofs.YtgkodjkhhmcnnaaDoor.S5
