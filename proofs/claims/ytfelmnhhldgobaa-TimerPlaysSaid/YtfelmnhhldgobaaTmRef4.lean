/- The document's clock: Set. -/
import Derived.Test.YtfelmnhhldgobaaTmRef3
namespace Go.Proofs.Ytfelmnhhldgobaa
open Go.RowKit
abbrev rcO (now made : Int) (V : Value) : Obj := .cells #[.int .i64 now, .int .i64 made, V] 28
abbrev rcV (now made : Int) (V : Value) : Value := .agg #[.int .i64 now, .int .i64 made, V]
theorem results_row_tmp2 {P : Program} {fn : Func} {p u v : Tmp} {ty : TypeId} (h : fn.results = #[.cell p ty, .tmp u, .tmp v]) (tmps : Array Value) (w : World) (g : Nat) (t : TypeId) (cs : Array Value) (fr : Nat × Nat) (d : TypeDesc)
    (hp : tmps.getD p undef = .pointer (some ⟨g, 0, none⟩)) (hg : w.heap[g]? = some (.cells cs t fr))
    (hu : P.underlying ty = some d) (hd : (match d with | .struct _ | .array _ _ => true | _ => false) = true) (hi : (P.info? ty).map (·.size) = some cs.size) :
    (results fn tmps).run P w = .ok (.tuple #[.agg cs, tmps.getD u undef, tmps.getD v undef]) w := by
  have hp' : tmps[p]?.getD undef = .pointer (some ⟨g, 0, none⟩) := by simpa using hp
  simp [results, h, hp', asAddr, run_loadVar_row w g t ty cs fr d hg hu hd hi, Result.andThen]
/-- a clock stored into a box -/
abbrev setC (X : World) (b : Nat) (now made : Int) (V : Value) : World := ((X.setCell ⟨b, 0, none⟩ (.int .i64 now)).setCell ⟨b, 1, none⟩ (.int .i64 made)).setCell ⟨b, 2, none⟩ V
theorem setC_at {X : World} {b : Nat} {x0 x1 x2 : Value} (h : X.heap[b]? = some (.cells #[x0, x1, x2] 28 (0, 0))) (now made : Int) (V : Value) : (setC X b now made V).heap[b]? = some (rcO now made V) :=
  heap_setCell_same _ b 2 _ _ _ (heap_setCell_same _ b 1 _ _ _ (heap_setCell_same X b 0 _ _ _ h))
theorem setC_far (X : World) (b : Nat) (now made : Int) (V : Value) (k : Nat) (hk : k ≠ b) : (setC X b now made V).heap[k]? = X.heap[k]? :=
  (Below.heap_setCell _ _ _ k hk).trans ((Below.heap_setCell _ _ _ k hk).trans (Below.heap_setCell _ _ _ k hk))
theorem setC_below {B : Nat} {w X : World} (h : Below B w X) {b : Nat} (hb : B ≤ b) (now made : Int) (V : Value) : Below B w (setC X b now made V) := ((h.setCell hb _).setCell hb _).setCell hb _
def tm.rset (now made : Int) (l : List tm.T) (o i e : Int) : (Int × List tm.T) × (Int × Int) :=
  if o < 1 ∨ tm.isT i = false ∨ tm.isT e = false ∨ 1099511627776 < now + i then ((made, l), (0, 1)) else
  if 64 ≤ l.length then ((made, l), (0, 3)) else ((made + 1, l ++ [⟨made + 1, o, now + i, e⟩]), (made + 1, 0))
def RSet (D : Nat → Prop) (w w' : World) (x : Ending) (now : Int) (R : (Int × List tm.T) × (Int × Int)) : Prop := ∃ o c, x = .returned (.tuple #[rcV now R.1.1 (.slice o R.1.2.length c), .int .i64 R.2.1, .int .i64 R.2.2]) ∧ RIn w' (fun k => D k ∨ w.heap.size ≤ k) (.slice o R.1.2.length c) R.1.2 ∧ Below w.heap.size w w'
set_option maxHeartbeats 800000 in
theorem rset_any (now made : Int) (o : Option Addr) (cap : Nat) (l : List tm.T) (ow i e : Int) (D : Nat → Prop) (w : World) (h : RIn w D (.slice o l.length cap) l) (hn : l.length ≤ 64) (h0 : 0 ≤ now) (h1 : now ≤ 1099511627776) (hm0 : 0 ≤ made) (hm1 : made ≤ 4611686018427387904) (R : (Int × List tm.T) × (Int × Int)) (hR : tm.rset now made l ow i e = R) : Calls Try.prog 10 #[rcV now made (.slice o l.length cap), .int .i64 ow, .int .i64 i, .int .i64 e] w fun x w' => RSet D w w' x now R := by
  obtain ⟨-, hnc, hcm⟩ := h.len
  have b1 := below_one w (rcO now made (.slice o l.length cap))
  have a1 := heap_alloc_new w (rcO now made (.slice o l.length cap))
  obtain ⟨W1, hW1⟩ : ∃ W, w.alloc (rcO now made (.slice o l.length cap)) = W := ⟨_, rfl⟩
  have s1 : W1.heap.size = w.heap.size + 1 := by rw [← hW1]; simp
  rw [hW1] at b1 a1
  have b2 := below_one W1 (rcO 0 0 (.slice none 0 0))
  have a2 := heap_alloc_new W1 (rcO 0 0 (.slice none 0 0))
  obtain ⟨W, hW⟩ : ∃ W, W1.alloc (rcO 0 0 (.slice none 0 0)) = W := ⟨_, rfl⟩
  rw [hW] at b2 a2
  rw [s1] at a2
  have bb : Below w.heap.size w W := b1.trans (b2.mono b1.size)
  have a1' := (b2.block _ (heap_lt a1)).trans a1
  have y0 : W.cell? ⟨w.heap.size, 0, none⟩ = some (.int .i64 now) := (cell_of_heap a1').trans rfl
  have y1 : W.cell? ⟨w.heap.size, 1, none⟩ = some (.int .i64 made) := (cell_of_heap a1').trans rfl
  have y2 : W.cell? ⟨w.heap.size, 2, none⟩ = some (.slice o l.length cap) := (cell_of_heap a1').trans rfl
  have y3 := thaw (k := 1) a1'
  have y4 := thaw (k := 2) a1'
  have z0 : W.cell? ⟨w.heap.size + 1, 0, none⟩ = some (.int .i64 0) := (cell_of_heap a2).trans rfl
  have z1 : W.cell? ⟨w.heap.size + 1, 1, none⟩ = some (.int .i64 0) := (cell_of_heap a2).trans rfl
  have z2 : W.cell? ⟨w.heap.size + 1, 2, none⟩ = some (.slice none 0 0) := (cell_of_heap a2).trans rfl
  have f0 := thaw (k := 0) a2
  have f1 := thaw (k := 1) a2
  have f2 := thaw (k := 2) a2
  have lW := heap_lt a2
  have H0 := Lib.hid (And.intro h (And.intro bb (And.intro a1' a2)))
  have HBi := Lib.hid (bad_any i W)
  have HBe := Lib.hid (bad_any e W)
  have HSame : Hid (∀ id er : Int, R = ((made, l), (id, er)) → ∀ w', Below w.heap.size w w' → RSet D w w' (.returned (.tuple #[rcV now made (.slice o l.length cap), .int .i64 id, .int .i64 er])) now R) := Lib.hid fun id er e w' hb => by
    subst e
    exact ⟨o, cap, rfl, RowIn.wide (RowIn.below h hb) fun _ hk _ => .inl hk, hb⟩
  have HR := Lib.hid hR
  clear h b1 a1 b2 a2 bb a1' hR
  have key (hbad : ow < 1 ∨ tm.isT i = false ∨ tm.isT e = false ∨ 1099511627776 < now + i) : R = ((made, l), (0, 1)) := by rw [← HR.out]; unfold tm.rset; rw [if_pos hbad]
  have HB3 : Hid (Below w.heap.size w (setC W (w.heap.size + 1) now made (.slice o l.length cap)) ∧ (setC W (w.heap.size + 1) now made (.slice o l.length cap)).heap[w.heap.size + 1]? = some (rcO now made (.slice o l.length cap))) := Lib.hid ⟨setC_below H0.out.2.1 (by omega) _ _ _, setC_at H0.out.2.2.2 _ _ _⟩
  by_cases c1 : ow < 1
  · have HE := Lib.hid (key (.inl c1))
    clear key
    go_enter Try.func10, Try.ntmps10
    go_wp2_with fail
    refine bodyPost_ret (results_row_tmp2 rfl _ _ (w.heap.size + 1) 28 _ (0, 0) _ rfl HB3.out.2 Try.underlying28 rfl (by kernel_rfl)) rfl ?_
    exact HSame.out 0 1 HE.out _ HB3.out.1
  cases c2 : tm.isT i with
  | false =>
    have HE := Lib.hid (key (.inr (.inl c2)))
    rw [c2] at HBi
    clear key
    go_enter Try.func10, Try.ntmps10
    go_wp2_with fail
    with_reducible refine HBi.out.mono ?_
    rintro e1 w' ⟨rfl, hw⟩
    replace hw := hw.symm
    subst hw
    go_wp2_with fail
    refine bodyPost_ret (results_row_tmp2 rfl _ _ (w.heap.size + 1) 28 _ (0, 0) _ rfl HB3.out.2 Try.underlying28 rfl (by kernel_rfl)) rfl ?_
    exact HSame.out 0 1 HE.out _ HB3.out.1
  | true =>
  have hib := (tm.isT_iff i).1 c2
  rw [c2] at HBi
  cases c3 : tm.isT e with
  | false =>
    have HE := Lib.hid (key (.inr (.inr (.inl c3))))
    rw [c3] at HBe
    clear key
    go_enter Try.func10, Try.ntmps10
    go_wp2_with fail
    with_reducible refine HBi.out.mono ?_
    rintro e1 w' ⟨rfl, hw⟩
    replace hw := hw.symm
    subst hw
    go_wp2_with fail
    with_reducible refine HBe.out.mono ?_
    rintro e1 w' ⟨rfl, hw⟩
    replace hw := hw.symm
    subst hw
    go_wp2_with fail
    refine bodyPost_ret (results_row_tmp2 rfl _ _ (w.heap.size + 1) 28 _ (0, 0) _ rfl HB3.out.2 Try.underlying28 rfl (by kernel_rfl)) rfl ?_
    exact HSame.out 0 1 HE.out _ HB3.out.1
  | true =>
  rw [c3] at HBe
  have ew : wrap64 (now + i) = now + i := by unfold wrap64; omega
  by_cases c4 : 1099511627776 < now + i
  · have HE := Lib.hid (key (.inr (.inr (.inr c4))))
    clear key
    go_enter Try.func10, Try.ntmps10
    go_wp2_with fail
    with_reducible refine HBi.out.mono ?_
    rintro e1 w' ⟨rfl, hw⟩
    replace hw := hw.symm
    subst hw
    go_wp2_with fail
    with_reducible refine HBe.out.mono ?_
    rintro e1 w' ⟨rfl, hw⟩
    replace hw := hw.symm
    subst hw
    go_wp2_with fail
    refine bodyPost_ret (results_row_tmp2 rfl _ _ (w.heap.size + 1) 28 _ (0, 0) _ rfl HB3.out.2 Try.underlying28 rfl (by kernel_rfl)) rfl ?_
    exact HSame.out 0 1 HE.out _ HB3.out.1
  have hno : ¬ (ow < 1 ∨ tm.isT i = false ∨ tm.isT e = false ∨ 1099511627776 < now + i) := by rw [c2, c3]; simp; omega
  by_cases c5 : 64 ≤ l.length
  · have c5' : (64 : Int) ≤ (l.length : Int) := by omega
    have HE : Hid (R = ((made, l), (0, 3))) := Lib.hid (by rw [← HR.out]; unfold tm.rset; rw [if_neg hno, if_pos c5])
    clear key
    go_enter Try.func10, Try.ntmps10
    go_wp2_with fail
    with_reducible refine HBi.out.mono ?_
    rintro e1 w' ⟨rfl, hw⟩
    replace hw := hw.symm
    subst hw
    go_wp2_with fail
    with_reducible refine HBe.out.mono ?_
    rintro e1 w' ⟨rfl, hw⟩
    replace hw := hw.symm
    subst hw
    go_wp2_with fail
    refine bodyPost_ret (results_row_tmp2 rfl _ _ (w.heap.size + 1) 28 _ (0, 0) _ rfl HB3.out.2 Try.underlying28 rfl (by kernel_rfl)) rfl ?_
    exact HSame.out 0 3 HE.out _ HB3.out.1
  · have c5' : ¬ (64 : Int) ≤ (l.length : Int) := by omega
    have HE : Hid (R = ((made + 1, l ++ [⟨made + 1, ow, now + i, e⟩]), (made + 1, 0))) := Lib.hid (by rw [← HR.out]; unfold tm.rset; rw [if_neg hno, if_neg c5])
    have ew2 : wrap64 (made + 1) = made + 1 := by unfold wrap64; omega
    clear key
    go_enter Try.func10, Try.ntmps10
    go_wp2_with fail
    with_reducible refine HBi.out.mono ?_
    rintro e1 w' ⟨rfl, hw⟩
    replace hw := hw.symm
    subst hw
    go_wp2_with fail
    with_reducible refine HBe.out.mono ?_
    rintro e1 w' ⟨rfl, hw⟩
    replace hw := hw.symm
    subst hw
    go_upto_region 6 with fail
    obtain ⟨X, hX⟩ : ∃ X, W.setCell ⟨w.heap.size, 1, none⟩ (.int .i64 (made + 1)) = X := ⟨_, rfl⟩
    have ax : X.heap[w.heap.size]? = some (rcO now (made + 1) (.slice o l.length cap)) := hX ▸ heap_setCell_same W _ 1 _ _ _ H0.out.2.2.1
    have ax2 : X.heap[w.heap.size + 1]? = some (rcO 0 0 (.slice none 0 0)) := hX ▸ (Below.heap_setCell W _ _ (w.heap.size + 1) (by show w.heap.size + 1 ≠ w.heap.size; omega)).trans H0.out.2.2.2
    have bx : Below w.heap.size w X := hX ▸ H0.out.2.1.setCell (by simp) _
    change Code.wp _ _ _ _ (W.setCell ⟨w.heap.size, 1, none⟩ (.int .i64 (made + 1)))
    rw [hX]
    obtain ⟨L, hL⟩ : ∃ L, l ++ [(⟨made + 1, ow, now + i, e⟩ : tm.T)] = L := ⟨_, rfl⟩
    rw [hL] at HE
    have HW := Lib.hid (hL ▸ with_any o l.length cap l ⟨made + 1, ow, now + i, e⟩ D X (RowIn.below H0.out.1 bx) (by omega))
    have HAX := Lib.hid (And.intro ax (And.intro ax2 bx))
    have hxs : w.heap.size ≤ X.heap.size := bx.size
    clear hX y0 y1 y2 y3 y4 z0 z1 z2 f0 f1 f2 lW hL
    have y0 : X.cell? ⟨w.heap.size, 0, none⟩ = some (.int .i64 now) := (cell_of_heap ax).trans rfl
    have y1 : X.cell? ⟨w.heap.size, 1, none⟩ = some (.int .i64 (made + 1)) := (cell_of_heap ax).trans rfl
    have y2 : X.cell? ⟨w.heap.size, 2, none⟩ = some (.slice o l.length cap) := (cell_of_heap ax).trans rfl
    have lx := heap_lt ax
    clear ax ax2 bx HB3 HSame HBi HBe HR
    go_wp2_with fail
    with_reducible refine HW.out.mono ?_
    rintro e1 w6 ⟨o6, c6, rfl, ro6, b6⟩
    have a6 := (b6.block _ (heap_lt HAX.out.1)).trans HAX.out.1
    have a62 := (b6.block _ (heap_lt HAX.out.2.1)).trans HAX.out.2.1
    obtain ⟨n6, hn6⟩ : ∃ n, L.length = n := ⟨_, rfl⟩
    have HI6 : Hid ((∀ y, (Value.slice o6 n6 c6).ownBlock = some y → w.heap.size + 2 ≤ y) ∧ ROwn w6 X.heap.size (.slice o6 n6 c6) L) := Lib.hid (hn6 ▸ ⟨fun y hy => by have h1 := (ro6.lt y hy).1; have h2 := heap_lt HAX.out.2.1; omega, ro6⟩)
    have HB6 := Lib.hid (And.intro (HAX.out.2.2.trans (b6.mono HAX.out.2.2.size)) (And.intro a6 a62))
    clear b6 a6 a62 HAX HW ro6 y0 y1 y2 lx
    rw [hn6]
    have HN6 := Lib.hid hn6
    clear hn6
    have y0 : w6.cell? ⟨w.heap.size, 0, none⟩ = some (.int .i64 now) := (cell_of_heap HB6.out.2.1).trans rfl
    have y1 : w6.cell? ⟨w.heap.size, 1, none⟩ = some (.int .i64 (made + 1)) := (cell_of_heap HB6.out.2.1).trans rfl
    have y2 : w6.cell? ⟨w.heap.size, 2, none⟩ = some (.slice o l.length cap) := (cell_of_heap HB6.out.2.1).trans rfl
    have y3 := thaw (k := 2) HB6.out.2.1
    have lx := heap_lt HB6.out.2.1
    go_upto_region 7 with fail
    obtain ⟨Y, hY⟩ : ∃ Y, w6.setCell ⟨w.heap.size, 2, none⟩ (.slice o6 n6 c6) = Y := ⟨_, rfl⟩
    have ay : Y.heap[w.heap.size]? = some (rcO now (made + 1) (.slice o6 n6 c6)) := hY ▸ heap_setCell_same w6 _ 2 _ _ _ HB6.out.2.1
    have ay2 : Y.heap[w.heap.size + 1]? = some (rcO 0 0 (.slice none 0 0)) := hY ▸ (Below.heap_setCell w6 _ _ (w.heap.size + 1) (by show w.heap.size + 1 ≠ w.heap.size; omega)).trans HB6.out.2.2
    have by_ : Below w.heap.size w Y := hY ▸ HB6.out.1.setCell (by simp) _
    have iy : (∀ y, (Value.slice o6 n6 c6).ownBlock = some y → w.heap.size + 2 ≤ y) ∧ ROwn Y X.heap.size (.slice o6 n6 c6) L := by
      rw [← hY]
      exact ⟨HI6.out.1, own_keep HI6.out.2 fun g _ _ _ hv _ => Below.heap_setCell _ _ _ g (by have := HI6.out.1 g hv; show g ≠ w.heap.size; omega)⟩
    change Code.wp _ _ _ _ (w6.setCell ⟨w.heap.size, 2, none⟩ (.slice o6 n6 c6))
    rw [hY]
    have HY := Lib.hid (And.intro by_ (And.intro ay ay2))
    clear hY y0 y1 y2 y3 lx HB6 HI6
    have y0 : Y.cell? ⟨w.heap.size, 0, none⟩ = some (.int .i64 now) := (cell_of_heap ay).trans rfl
    have y1 : Y.cell? ⟨w.heap.size, 1, none⟩ = some (.int .i64 (made + 1)) := (cell_of_heap ay).trans rfl
    have y2 : Y.cell? ⟨w.heap.size, 2, none⟩ = some (.slice o6 n6 c6) := (cell_of_heap ay).trans rfl
    have z0 : Y.cell? ⟨w.heap.size + 1, 0, none⟩ = some (.int .i64 0) := (cell_of_heap ay2).trans rfl
    have z1 : Y.cell? ⟨w.heap.size + 1, 1, none⟩ = some (.int .i64 0) := (cell_of_heap ay2).trans rfl
    have z2 : Y.cell? ⟨w.heap.size + 1, 2, none⟩ = some (.slice none 0 0) := (cell_of_heap ay2).trans rfl
    have f0 := thaw (k := 0) ay2
    have f1 := thaw (k := 1) ay2
    have f2 := thaw (k := 2) ay2
    have lx := heap_lt ay2
    have HIY := Lib.hid iy
    clear ay ay2 by_ iy
    have HZ : Hid (Below w.heap.size w (setC Y (w.heap.size + 1) now (made + 1) (.slice o6 n6 c6)).drew ∧ (setC Y (w.heap.size + 1) now (made + 1) (.slice o6 n6 c6)).drew.heap[w.heap.size + 1]? = some (rcO now (made + 1) (.slice o6 n6 c6)) ∧ RIn (setC Y (w.heap.size + 1) now (made + 1) (.slice o6 n6 c6)).drew (fun k => D k ∨ w.heap.size ≤ k) (.slice o6 n6 c6) L) := Lib.hid (by
      have h1 := setC_below HY.out.1 (b := w.heap.size + 1) (by omega) now (made + 1) (.slice o6 n6 c6)
      have h3 : ROwn (setC Y (w.heap.size + 1) now (made + 1) (.slice o6 n6 c6)).drew X.heap.size (.slice o6 n6 c6) L := own_keep HIY.out.2 fun g _ _ _ hv _ => setC_far _ _ _ _ _ g (by have := HIY.out.1 g hv; omega)
      exact ⟨⟨h1.os, h1.tape, h1.output, h1.size, h1.block⟩, setC_at HY.out.2.2 _ _ _, RowIn.wide (ROwn.toIn h3) (fun k hk _ => .inr (Nat.le_trans hxs hk))⟩)
    clear HY HIY
    go_region
    go_wp2_with fail
    refine bodyPost_ret (results_row_tmp2 rfl _ _ (w.heap.size + 1) 28 _ (0, 0) _ rfl HZ.out.2.1 Try.underlying28 rfl (by kernel_rfl)) rfl ?_
    obtain rfl := HE.out
    obtain rfl := HN6.out
    exact ⟨_, _, rfl, HZ.out.2.2, HZ.out.1⟩
end Go.Proofs.Ytfelmnhhldgobaa
