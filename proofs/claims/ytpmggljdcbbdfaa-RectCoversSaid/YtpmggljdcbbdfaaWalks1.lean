/- What the calls of package rect do that only reckon: Clamp, cleanSide, Clean, Sum, Empty, Area, Has. -/
import Derived.Test.YtpmggljdcbbdfaaMath
import Derived.Test.YtpmggljdcbbdfaaRows
import Derived.WalkKit
import Derived.WalkSpells
import Derived.WalkLawsBesides
import Derived.Lib.Hide
import Derived.Laws.StructEq
import Derived.BigQuiet
import Derived.Deep.RegionHeld3
import Derived.Deep.RegionWith
import Derived.Deep.DrawnRows
namespace Go.Proofs.Ytpmggljdcbbdfaa
open Go.RowKit rm
theorem run_mn {P : Program} {w : World} (ts : Array TypeId) (t : TypeId) (k k' : IntKind) (x y : Int) : (Builtin.min_ ts t #[.int k x, .int k' y]).run P w = .ok (.int k (mn x y)) w := run_min_int2 w ts t k k' x y
theorem run_mx {P : Program} {w : World} (ts : Array TypeId) (t : TypeId) (k k' : IntKind) (x y : Int) : (Builtin.max_ ts t #[.int k x, .int k' y]).run P w = .ok (.int k (mx x y)) w := run_max_int2 w ts t k k' x y
attribute [local go_sem ↓] Go.wp_at_zero Go.wp_at_succ
attribute [local go_sem ↓ 10000] run_mn run_mx

theorem ret_int {k : IntKind} {a b : Int} (h : a = b) : Ending.returned (.int k a) = .returned (.int k b) := by rw [h]
theorem ret_bool {a b : Bool} (h : a = b) : Ending.returned (.bool a) = .returned (.bool b) := by rw [h]
theorem bcell {W w1 : World} (hb : Below W.heap.size W w1) : (∀ b o, b < W.heap.size → w1.cell? ⟨b, o, none⟩ = W.cell? ⟨b, o, none⟩) ∧ (∀ b o, b < W.heap.size → w1.frozen? ⟨b, o, none⟩ = W.frozen? ⟨b, o, none⟩) :=
  ⟨fun b o h => hb.cell (p := ⟨b, o, none⟩) h, fun b o h => hb.frozen (p := ⟨b, o, none⟩) h⟩

/-- are two rectangles the same? -/
def eq4 (a b c d a' b' c' d' : Int) : Bool := decide (a = a' ∧ b = b' ∧ c = c' ∧ d = d')
theorem eq4_iff {a b c d a' b' c' d' : Int} : eq4 a b c d a' b' c' d' = true ↔ a = a' ∧ b = b' ∧ c = c' ∧ d = d' := by simp [eq4]

theorem hS23 : Try.prog.underlying 23 = some (.struct (Try.prog.fieldsOf 23)) := by kernel_rfl
theorem hp23 : Try.prog.stoodInHeld 23 = false := by kernel_rfl
theorem eqg23 : Try.prog.eqGuardType Try.prog.depth 23 = false := by kernel_rfl
theorem run_eq_rr (a b c d a' b' c' d' : Int) (w : World) :
    (binOp .eql 23 (.agg #[.int .i64 a, .int .i64 b, .int .i64 c, .int .i64 d]) (.agg #[.int .i64 a', .int .i64 b', .int .i64 c', .int .i64 d'])).run Try.prog w = .ok (.bool (eq4 a b c d a' b' c' d')) w := by
  have u3 := Try.underlying3
  have a3 := Try.isAgg3
  have z3 := Try.sizeOf3
  rw [run_eql_struct, show (10000 : Nat) = 9999 + 1 from rfl, run_equalIn_agg w 9999 23 _ _ hS23 hp23]
  simp only [Program.fieldsOf, Try.underlying23]
  go_simp
  by_cases h1 : a = a' <;> by_cases h2 : b = b' <;> by_cases h3 : c = c' <;> by_cases h4 : d = d' <;> simp [eq4, h1, h2, h3, h4]

set_option maxHeartbeats 400000 in
theorem clamp_any (n lo hi : Int) (w : World) :
    Calls Try.prog 16 #[.int .i64 n, .int .i64 lo, .int .i64 hi] w fun e w' => e = .returned (.int .i64 (cl n lo hi)) ∧ w = w' := by
  go_enter Try.func16, Try.ntmps16
  go_wp2
  go_ret
  exact ⟨ret_int (by unfold cl mn mx; omega), rfl⟩

set_option maxHeartbeats 400000 in
theorem cleanSide_any (a s : Int) (w : World) :
    Calls Try.prog 39 #[.int .i64 a, .int .i64 s] w fun e w' => ∃ a' s' : Int, e = .returned (.tuple #[.int .i64 a', .int .i64 s']) ∧ w = w' ∧ CS a s a' s' := by
  have hb : -5000 ≤ cl a (-5000) 5000 ∧ cl a (-5000) 5000 ≤ 5000 := by unfold cl; omega
  obtain ⟨b1, b2⟩ := hb
  go_enter Try.func39, Try.ntmps39
  go_wp2_with (go_at_call 16; refine (clamp_any _ _ _ _).mono ?_; rintro e w' ⟨rfl, rfl⟩)
  go_ret2
  exact ⟨_, _, rfl, rfl, rfl, by unfold cl mn at *; omega⟩

theorem is_zero {x y w h a' s' b' t' : Int} (h1 : CS x w a' s') (h2 : CS y h b' t') (hz : s' = 0 ∨ t' = 0) : IsClean ⟨x, y, w, h⟩ zero := by
  unfold CS at h1 h2; obtain ⟨rfl, rfl⟩ := h1; obtain ⟨rfl, rfl⟩ := h2
  unfold IsClean clean; rw [if_pos hz]
theorem is_full {x y w h a' s' b' t' : Int} (h1 : CS x w a' s') (h2 : CS y h b' t') (hz : ¬ (s' = 0 ∨ t' = 0)) : IsClean ⟨x, y, w, h⟩ ⟨a', b', s', t'⟩ := by
  unfold CS at h1 h2; obtain ⟨rfl, rfl⟩ := h1; obtain ⟨rfl, rfl⟩ := h2
  unfold IsClean clean; rw [if_neg hz]

set_option maxHeartbeats 400000 in
theorem clean_any (x y ww h : Int) (w : World) :
    Calls Try.prog 17 #[.agg #[.int .i64 x, .int .i64 y, .int .i64 ww, .int .i64 h]] w fun e w' =>
      ∃ a b c d : Int, e = .returned (.agg #[.int .i64 a, .int .i64 b, .int .i64 c, .int .i64 d]) ∧ IsClean ⟨x, y, ww, h⟩ ⟨a, b, c, d⟩ ∧ Below w.heap.size w w' := by
  go_enter Try.func17, Try.ntmps17
  go_wp2_with fail
  refine (cleanSide_any _ _ _).mono ?_
  rintro e w' ⟨a', s', rfl, rfl, h1⟩
  go_wp2_with fail
  refine (cleanSide_any _ _ _).mono ?_
  rintro e w' ⟨b', t', rfl, rfl, h2⟩
  by_cases hs : s' = 0
  · have hs1 : (s' == 0) = true := by simp [hs]
    have H := Lib.hid hs; clear hs
    go_wp2
    simp [bodyPost, results, Try.results17, go_sem]
    exact ⟨0, 0, 0, 0, ⟨rfl, rfl, rfl, rfl⟩, is_zero h1 h2 (.inl H.out), ((Below.refl _ _).alloc (Nat.le_refl _) _).alloc (by simp) _⟩
  · have hs1 : (s' == 0) = false := by simp [hs]
    by_cases ht : t' = 0
    · have ht1 : (t' == 0) = true := by simp [ht]
      have H := Lib.hid ht; clear ht hs
      go_wp2
      simp [bodyPost, results, Try.results17, go_sem]
      exact ⟨0, 0, 0, 0, ⟨rfl, rfl, rfl, rfl⟩, is_zero h1 h2 (.inr H.out), ((Below.refl _ _).alloc (Nat.le_refl _) _).alloc (by simp) _⟩
    · have ht1 : (t' == 0) = false := by simp [ht]
      have H := Lib.hid hs; clear hs
      have H' := Lib.hid ht; clear ht
      go_wp2
      simp [bodyPost, results, Try.results17, go_sem]
      exact ⟨_, _, _, _, ⟨rfl, rfl, rfl, rfl⟩, is_full h1 h2 (by rintro (h | h); exact H.out h; exact H'.out h), ((Below.refl _ _).alloc (Nat.le_refl _) _).alloc (by simp) _⟩

set_option maxHeartbeats 400000 in
theorem sum_any (a b : Int) (ha : -9223372036854775808 ≤ a ∧ a ≤ 9223372036854775807) (hb : -9223372036854775808 ≤ b ∧ b ≤ 9223372036854775807) (w : World) :
    Calls Try.prog 14 #[.int .i64 a, .int .i64 b] w fun e w' => e = .returned (.int .i64 (sat a b)) ∧ w = w' := by
  go_enter Try.func14, Try.ntmps14
  go_wp2
  all_goals
    go_ret
    exact ⟨ret_int (by unfold sat top bot; simp only [wrap64] at *; omega), rfl⟩

set_option maxHeartbeats 400000 in
theorem empty_any (x y ww h : Int) (w : World) :
    Calls Try.prog 18 #[.agg #[.int .i64 x, .int .i64 y, .int .i64 ww, .int .i64 h]] w fun e w' =>
      ∃ a b c d : Int, e = .returned (.bool (eq4 a b c d 0 0 0 0)) ∧ IsClean ⟨x, y, ww, h⟩ ⟨a, b, c, d⟩ ∧ Below w.heap.size w w' := by
  have g1 := eqg23
  have g2 := run_eq_rr
  go_enter Try.func18, Try.ntmps18
  go_wp2_with (go_at_call 17; refine (clean_any _ _ _ _ _).mono ?_; rintro e w1 ⟨a, b, c, d, rfl, hc, hb⟩)
  go_ret
  exact ⟨a, b, c, d, rfl, hc, ((Below.refl _ _).alloc (Nat.le_refl _) _).trans (hb.mono (by simp))⟩

theorem area_bd {r : RR} {a b c d : Int} (h : IsClean r ⟨a, b, c, d⟩) : 0 ≤ c * d ∧ c * d ≤ 40000 := by
  obtain ⟨_, _, _, _, h1, h2, h3, h4, _, _⟩ := h.bounds
  refine ⟨Int.mul_nonneg h1 h3, ?_⟩
  have : c * d ≤ 200 * 200 := Int.mul_le_mul h2 h4 h3 (by decide)
  omega

set_option maxHeartbeats 400000 in
theorem area_any (x y ww h : Int) (w : World) :
    Calls Try.prog 19 #[.agg #[.int .i64 x, .int .i64 y, .int .i64 ww, .int .i64 h]] w fun e w' =>
      ∃ a b c d : Int, e = .returned (.int .i64 (c * d)) ∧ IsClean ⟨x, y, ww, h⟩ ⟨a, b, c, d⟩ ∧ Below w.heap.size w w' := by
  go_enter Try.func19, Try.ntmps19
  go_wp2_with (go_at_call 17; refine (clean_any _ _ _ _ _).mono ?_; rintro e w1 ⟨a, b, c, d, rfl, hc, hb⟩; obtain ⟨c1, c2⟩ := bcell hb; have hz := hb.size; obtain ⟨m1, m2⟩ := area_bd hc)
  go_ret
  exact ⟨a, b, c, d, rfl, hc, (((Below.refl _ _).alloc (Nat.le_refl _) _).trans (hb.mono (by simp))).setCell (by simp) _ |>.setCell (by simp) _ |>.setCell (by simp) _ |>.setCell (by simp) _⟩

def hasB (a b c d x y : Int) : Bool := decide (a ≤ x ∧ x < a + c ∧ b ≤ y ∧ y < b + d)
theorem hasB_iff {a b c d x y : Int} : hasB a b c d x y = true ↔ a ≤ x ∧ x < a + c ∧ b ≤ y ∧ y < b + d := by simp [hasB]

set_option maxHeartbeats 400000 in
theorem has_any (x y ww h px py : Int) (w : World) :
    Calls Try.prog 20 #[.agg #[.int .i64 x, .int .i64 y, .int .i64 ww, .int .i64 h], .int .i64 px, .int .i64 py] w fun e w' =>
      ∃ a b c d : Int, e = .returned (.bool (hasB a b c d px py)) ∧ IsClean ⟨x, y, ww, h⟩ ⟨a, b, c, d⟩ ∧ Below w.heap.size w w' := by
  go_enter Try.func20, Try.ntmps20
  go_wp2_with (go_at_call 17; refine (clean_any _ _ _ _ _).mono ?_; rintro e w1 ⟨a, b, c, d, rfl, hc, hb⟩; obtain ⟨c1, c2⟩ := bcell hb; have hz := hb.size; obtain ⟨m1, m2, m3, m4, m5, m6, m7, m8, m9, m10⟩ := hc.bounds)
  all_goals
    go_ret
    exact ⟨a, b, c, d, ret_bool (by rw [Bool.eq_iff_iff]; simp [hasB]; try omega), hc, (((Below.refl _ _).alloc (Nat.le_refl _) _).trans (hb.mono (by simp))).setCell (by simp) _ |>.setCell (by simp) _ |>.setCell (by simp) _ |>.setCell (by simp) _⟩

set_option maxHeartbeats 400000 in
theorem spanning_any (x y r b : Int) (h1 : -10000 ≤ x ∧ x ≤ 10000) (h2 : -10000 ≤ y ∧ y ≤ 10000) (h3 : -10000 ≤ r ∧ r ≤ 10000) (h4 : -10000 ≤ b ∧ b ≤ 10000) (w : World) :
    Calls Try.prog 50 #[.int .i64 x, .int .i64 y, .int .i64 r, .int .i64 b] w fun e w' =>
      ∃ a' b' c' d' : Int, e = .returned (.agg #[.int .i64 a', .int .i64 b', .int .i64 c', .int .i64 d']) ∧ Is ⟨a', b', c', d'⟩ (span x y r b) ∧ Below w.heap.size w w' := by
  go_enter Try.func50, Try.ntmps50
  go_wp2_with (go_at_call 17; refine (clean_any _ _ _ _ _).mono ?_; rintro e w1 ⟨a', b', c', d', rfl, hc, hb⟩; obtain ⟨c1, c2⟩ := bcell hb; have hz := hb.size)
  simp [bodyPost, results, Try.results50, go_sem, c1]
  exact ⟨a', b', c', d', ⟨rfl, rfl, rfl, rfl⟩, hc, (((Below.refl _ _).alloc (Nat.le_refl _) _).trans (hb.mono (by simp))).setCell (by simp) _ |>.setCell (by simp) _ |>.setCell (by simp) _ |>.setCell (by simp) _⟩

/-- in block b of the world w lies a rectangle that may be written -/
structure RectAt (w : World) (b : Nat) (x y ww h : Int) : Prop where
  lt : b < w.heap.size
  k0 : w.cell? ⟨b, 0, none⟩ = some (.int .i64 x)
  k1 : w.cell? ⟨b, 1, none⟩ = some (.int .i64 y)
  k2 : w.cell? ⟨b, 2, none⟩ = some (.int .i64 ww)
  k3 : w.cell? ⟨b, 3, none⟩ = some (.int .i64 h)
  f0 : w.frozen? ⟨b, 0, none⟩ = false
  f1 : w.frozen? ⟨b, 1, none⟩ = false
  f2 : w.frozen? ⟨b, 2, none⟩ = false
  f3 : w.frozen? ⟨b, 3, none⟩ = false
theorem RectAt.below {w w' : World} {b : Nat} {x y ww h : Int} (H : RectAt w b x y ww h) {B : Nat} (hb : Below B w w') (hB : b < B) : RectAt w' b x y ww h :=
  ⟨Nat.lt_of_lt_of_le H.lt hb.size, (hb.cell (p := ⟨b, 0, none⟩) hB).trans H.k0, (hb.cell (p := ⟨b, 1, none⟩) hB).trans H.k1, (hb.cell (p := ⟨b, 2, none⟩) hB).trans H.k2, (hb.cell (p := ⟨b, 3, none⟩) hB).trans H.k3,
   (hb.frozen (p := ⟨b, 0, none⟩) hB).trans H.f0, (hb.frozen (p := ⟨b, 1, none⟩) hB).trans H.f1, (hb.frozen (p := ⟨b, 2, none⟩) hB).trans H.f2, (hb.frozen (p := ⟨b, 3, none⟩) hB).trans H.f3⟩
theorem RectAt.new (w : World) (x y ww h : Int) (t : TypeId) : RectAt (w.alloc (.cells #[.int .i64 x, .int .i64 y, .int .i64 ww, .int .i64 h] t)) w.heap.size x y ww h := by
  constructor <;> go_simp
theorem RectAt.alloc {w : World} {b : Nat} {x y ww h : Int} (H : RectAt w b x y ww h) (o : Obj) : RectAt (w.alloc o) b x y ww h :=
  H.below ((Below.refl w.heap.size w).alloc (Nat.le_refl _) o) H.lt
theorem RectAt.drew {w : World} {b : Nat} {x y ww h : Int} (H : RectAt w b x y ww h) : RectAt w.drew b x y ww h := ⟨H.lt, H.k0, H.k1, H.k2, H.k3, H.f0, H.f1, H.f2, H.f3⟩

theorem RectAt.put {w : World} {b : Nat} {x y ww h : Int} (H : RectAt w b x y ww h) (p q s t : Int) : RectAt ((((World.setCell w ⟨b, 0, none⟩ (.int .i64 p)).setCell ⟨b, 1, none⟩ (.int .i64 q)).setCell ⟨b, 2, none⟩ (.int .i64 s)).setCell ⟨b, 3, none⟩ (.int .i64 t)) b p q s t := by
  obtain ⟨u0, k0, k1, k2, k3, f0, f1, f2, f3⟩ := H
  constructor <;> go_simp
theorem below_put {B : Nat} {a w : World} (h : Below B a w) {b : Nat} (hb : B ≤ b) (p q s t : Int) : Below B a ((((World.setCell w ⟨b, 0, none⟩ (.int .i64 p)).setCell ⟨b, 1, none⟩ (.int .i64 q)).setCell ⟨b, 2, none⟩ (.int .i64 s)).setCell ⟨b, 3, none⟩ (.int .i64 t)) :=
  (((h.setCell (p := ⟨b, 0, none⟩) hb _).setCell (p := ⟨b, 1, none⟩) hb _).setCell (p := ⟨b, 2, none⟩) hb _).setCell (p := ⟨b, 3, none⟩) hb _
theorem RectAt.other {w : World} {b b' : Nat} {x y ww h : Int} (H : RectAt w b x y ww h) (hne : b ≠ b') (p q s t : Int) : RectAt ((((World.setCell w ⟨b', 0, none⟩ (.int .i64 p)).setCell ⟨b', 1, none⟩ (.int .i64 q)).setCell ⟨b', 2, none⟩ (.int .i64 s)).setCell ⟨b', 3, none⟩ (.int .i64 t)) b x y ww h := by
  obtain ⟨u0, k0, k1, k2, k3, f0, f1, f2, f3⟩ := H
  constructor <;> (go_simp; try simp [hne, *])

theorem IsClean.congr {x y w h x' y' w' h' : Int} {r : RR} (H : IsClean ⟨x, y, w, h⟩ r) (h1 : x = x') (h2 : y = y') (h3 : w = w') (h4 : h = h') : IsClean ⟨x', y', w', h'⟩ r := by
  subst h1 h2 h3 h4; exact H

/-- a rectangle's cells, as a new block -/
abbrev rc (x y ww h : Int) : Obj := .cells #[.int .i64 x, .int .i64 y, .int .i64 ww, .int .i64 h] 23
theorem boxes3 (w : World) (x y ww h x' y' ww' h' x'' y'' ww'' h'' : Int) :
    RectAt (((w.alloc (rc x y ww h)).alloc (rc x' y' ww' h')).alloc (rc x'' y'' ww'' h'')) w.heap.size x y ww h ∧ RectAt (((w.alloc (rc x y ww h)).alloc (rc x' y' ww' h')).alloc (rc x'' y'' ww'' h'')) (w.heap.size + 1) x' y' ww' h' ∧
    RectAt (((w.alloc (rc x y ww h)).alloc (rc x' y' ww' h')).alloc (rc x'' y'' ww'' h'')) (w.heap.size + 1 + 1) x'' y'' ww'' h'' ∧ Below w.heap.size w (((w.alloc (rc x y ww h)).alloc (rc x' y' ww' h')).alloc (rc x'' y'' ww'' h'')) :=
  ⟨((RectAt.new _ _ _ _ _ _).alloc _).alloc _, by simpa using (RectAt.new (w.alloc (rc x y ww h)) x' y' ww' h' 23).alloc (rc x'' y'' ww'' h''), by simpa using RectAt.new ((w.alloc (rc x y ww h)).alloc (rc x' y' ww' h')) x'' y'' ww'' h'' 23,
   (((Below.refl _ _).alloc (Nat.le_refl _) _).alloc (by simp) _).alloc (by simp; omega) _⟩

theorem boxes2 (w : World) (x y ww h x' y' ww' h' : Int) :
    RectAt ((w.alloc (rc x y ww h)).alloc (rc x' y' ww' h')) w.heap.size x y ww h ∧ RectAt ((w.alloc (rc x y ww h)).alloc (rc x' y' ww' h')) (w.heap.size + 1) x' y' ww' h' ∧ Below w.heap.size w ((w.alloc (rc x y ww h)).alloc (rc x' y' ww' h')) :=
  ⟨(RectAt.new _ _ _ _ _ _).alloc _, by simpa using RectAt.new (w.alloc (rc x y ww h)) x' y' ww' h' 23, ((Below.refl _ _).alloc (Nat.le_refl _) _).alloc (by simp) _⟩
theorem wr (n : Int) (h : -1000000 ≤ n ∧ n ≤ 1000000) : IntKind.i64.wrap n = n := by rw [IntKind.wrap_i64]; omega
theorem IsClean.unique {r s t : RR} (h : IsClean r s) (h' : IsClean r t) : s = t := Eq.trans h h'.symm
end Go.Proofs.Ytpmggljdcbbdfaa
