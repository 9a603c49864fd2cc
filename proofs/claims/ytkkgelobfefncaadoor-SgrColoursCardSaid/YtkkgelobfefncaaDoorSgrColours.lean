/- SgrColours returns true at every input: each short number makes its colour, and no other field; 38 and 48 with 5 or 2 make theirs. -/
import Derived.Test.YtkkgelobfefncaaDoorSgrAlive
import Derived.Deep.DeepCutAuto
namespace Go.Proofs.YtkkgelobfefncaaDoor
open Go.RowKit

/-- a number's lowest byte -/
theorem low_byte (x : Int) : 0 ≤ bits .and .i64 x 255 ∧ bits .and .i64 x 255 ≤ 255 := by
  have key : (BitVec.ofInt 64 x &&& BitVec.ofInt 64 255).toNat ≤ 255 := by
    rw [BitVec.toNat_and]
    exact Nat.and_le_right
  show 0 ≤ IntKind.i64.wrap ((BitVec.ofInt 64 x &&& BitVec.ofInt 64 255).toNat : Nat) ∧ IntKind.i64.wrap ((BitVec.ofInt 64 x &&& BitVec.ofInt 64 255).toNat : Nat) ≤ 255
  rw [IntKind.wrap_i64]
  omega
section
variable {f g a : Int} (hr : sg.right ⟨f, g, a⟩ = true)
include hr
theorem mk_one (x : Int) : sg.apply ⟨f, g, a⟩ [x] = if x = 38 ∨ x = 48 then ⟨f, g, a⟩ else sg.one ⟨f, g, a⟩ x := by
  unfold sg.apply
  rw [if_neg (by simp), sg.known_right hr, List.take_of_length_le (by simp)]
  by_cases h : x = 38 ∨ x = 48
  · rw [if_pos h, sg.go_cons]
    rcases h with rfl | rfl <;> rfl
  · rw [if_neg h, sg.go_plain _ _ _ (by omega) (by omega), sg.go_nil]
theorem mk_fg5 (n : Int) (h : 0 ≤ n ∧ n ≤ 255) : sg.apply ⟨f, g, a⟩ [38, 5, n] = ⟨n + 1, g, a⟩ := by
  unfold sg.apply
  rw [if_neg (by simp), sg.known_right hr, List.take_of_length_le (by simp), sg.go_cons, sg.step, if_pos rfl, sg.ext_one _ _ _ h, sg.go_nil]
theorem mk_bg5 (n : Int) (h : 0 ≤ n ∧ n ≤ 255) : sg.apply ⟨f, g, a⟩ [48, 5, n] = ⟨f, n + 1, a⟩ := by
  unfold sg.apply
  rw [if_neg (by simp), sg.known_right hr, List.take_of_length_le (by simp), sg.go_cons, sg.step, if_neg (by decide), if_pos rfl, sg.ext_one _ _ _ h, sg.go_nil]
theorem mk_fg2 (x y z : Int) (hx : 0 ≤ x ∧ x ≤ 255) (hy : 0 ≤ y ∧ y ≤ 255) (hz : 0 ≤ z ∧ z ≤ 255) : sg.apply ⟨f, g, a⟩ [38, 2, x, y, z] = ⟨16777216 + x * 65536 + y * 256 + z, g, a⟩ := by
  unfold sg.apply
  rw [if_neg (by simp), sg.known_right hr, List.take_of_length_le (by simp), sg.go_cons, sg.step, if_pos rfl, sg.ext_three _ _ _ _ _ hx hy hz, sg.go_nil]
theorem mk_bg2 (x y z : Int) (hx : 0 ≤ x ∧ x ≤ 255) (hy : 0 ≤ y ∧ y ≤ 255) (hz : 0 ≤ z ∧ z ≤ 255) : sg.apply ⟨f, g, a⟩ [48, 2, x, y, z] = ⟨f, 16777216 + x * 65536 + y * 256 + z, a⟩ := by
  unfold sg.apply
  rw [if_neg (by simp), sg.known_right hr, List.take_of_length_le (by simp), sg.go_cons, sg.step, if_neg (by decide), if_pos rfl, sg.ext_three _ _ _ _ _ hx hy hz, sg.go_nil]
theorem mk_short (x : Int) (fg bg : Int) (h38 : x ≠ 38 ∧ x ≠ 48) (h0 : 30 ≤ x) (h1 : sg.basic f (x - 30) = fg) (h2 : sg.basic g (x - 40) = bg) : sg.apply ⟨f, g, a⟩ [x] = ⟨fg, bg, a⟩ := by
  rw [mk_one hr, if_neg (by omega)]
  unfold sg.one sg.markOf
  rw [if_neg (by omega)]
  simp only [h1, h2]
  (repeat' split) <;> first | omega | rfl
theorem mk_fg8 (n : Int) (h : 0 ≤ n ∧ n < 8) : sg.apply ⟨f, g, a⟩ [30 + n] = ⟨n + 1, g, a⟩ := mk_short hr _ _ _ (by omega) (by omega) (by unfold sg.basic; rw [if_pos (by omega)]; omega) (by unfold sg.basic; rw [if_neg (by omega), if_neg (by omega), if_neg (by omega)])
theorem mk_bg8 (n : Int) (h : 0 ≤ n ∧ n < 8) : sg.apply ⟨f, g, a⟩ [40 + n] = ⟨f, n + 1, a⟩ := mk_short hr _ _ _ (by omega) (by omega) (by unfold sg.basic; rw [if_neg (by omega), if_neg (by omega), if_neg (by omega)]) (by unfold sg.basic; rw [if_pos (by omega)]; omega)
theorem mk_fg16 (n : Int) (h : 8 ≤ n ∧ n < 16) : sg.apply ⟨f, g, a⟩ [82 + n] = ⟨n + 1, g, a⟩ := mk_short hr _ _ _ (by omega) (by omega) (by unfold sg.basic; rw [if_neg (by omega), if_pos (by omega)]; omega) (by unfold sg.basic; rw [if_neg (by omega), if_neg (by omega), if_neg (by omega)])
theorem mk_bg16 (n : Int) (h : 8 ≤ n ∧ n < 16) : sg.apply ⟨f, g, a⟩ [92 + n] = ⟨f, n + 1, a⟩ := mk_short hr _ _ _ (by omega) (by omega) (by unfold sg.basic; rw [if_neg (by omega), if_neg (by omega), if_neg (by omega)]) (by unfold sg.basic; rw [if_neg (by omega), if_pos (by omega)]; omega)
theorem mk_fg0 : sg.apply ⟨f, g, a⟩ [39] = ⟨0, g, a⟩ := mk_short hr _ _ _ (by omega) (by omega) rfl rfl
theorem mk_bg0 : sg.apply ⟨f, g, a⟩ [49] = ⟨f, 0, a⟩ := mk_short hr _ _ _ (by omega) (by omega) rfl rfl
theorem mk_zero : sg.apply ⟨f, g, a⟩ [0] = sg.zero := by rw [mk_one hr, if_neg (by omega)]; rfl
end
theorem mk_wrong {f g a : Int} (hr : sg.right ⟨f, g, a⟩ = false) : sg.apply ⟨f, g, a⟩ [1] = ⟨0, 0, 1⟩ := by
  unfold sg.apply sg.known
  rw [hr]; rfl
/-- a style, and two more, whatever is called -/
structure Three (w X : World) (B p q : Nat) (s t u : sg.St) : Prop where
  st0 : StAt X B s
  st1 : StAt X p t
  st2 : StAt X q u
  bel : Below w.heap.size w X
theorem Three.call {w X X' : World} {B p q : Nat} {s t u : sg.St} (h : Three w X B p q s t u) (hb : Below X.heap.size X X') : Three w X' B p q s t u :=
  ⟨h.st0.below hb h.st0.cells.lt, h.st1.below hb h.st1.cells.lt, h.st2.below hb h.st2.cells.lt, h.bel.trans (hb.mono h.bel.size)⟩

theorem three_new {w w2 : World} {B : Nat} {s : sg.St} (h : StAt w2 B s) (hb : Below w.heap.size w w2) (t u : sg.St) :
    Three w ((w2.alloc (stObj t)).alloc (stObj u)).drew B w2.heap.size (w2.heap.size + 1) s t u := by
  obtain ⟨h0, h1, h2⟩ := two_after (s := t) (t := u) (Below.refl ((w2.alloc (stObj t)).alloc (stObj u)).heap.size ((w2.alloc (stObj t)).alloc (stObj u)))
  exact ⟨h.below h2.drew h.cells.lt, h0, h1, hb.trans (h2.drew.mono hb.size)⟩
theorem Three.drew {w X : World} {B p q : Nat} {s t u : sg.St} (h : Three w X B p q s t u) : Three w X.drew B p q s t u := ⟨h.st0, h.st1, h.st2, h.bel.drew⟩
theorem Three.drewN {w X : World} {B p q : Nat} {s t u : sg.St} (h : Three w X B p q s t u) (n : Nat) : Three w (X.drewN n) B p q s t u := ⟨h.st0, h.st1, h.st2, below_drewN h.bel n⟩
theorem Three.swap {w X : World} {B p q : Nat} {s t u : sg.St} (h : Three w X B p q s t u) : Three w X B q p s u t := ⟨h.st0, h.st2, h.st1, h.bel⟩
theorem Three.fgbg {w X : World} {B p q : Nat} {s t u : sg.St} (h : Three w X B p q s t u) (h1 : p ≠ q) (h2 : p ≠ B) (h3 : q ≠ B) (h4 : w.heap.size ≤ p) (h5 : w.heap.size ≤ q) (x y : Int) :
    Three w ((X.setCell ⟨p, 0, none⟩ (.int .i64 x)).setCell ⟨q, 1, none⟩ (.int .i64 y)) B p q s ⟨x, t.bg, t.at_⟩ ⟨u.fg, y, u.at_⟩ := by
  have k1 : Kept X (X.setCell ⟨p, 0, none⟩ (.int .i64 x)) (· = p) := (Kept.refl X (fun k => k = p)).setCell (fun _ => rfl) _
  have k2 : Kept (X.setCell ⟨p, 0, none⟩ (.int .i64 x)) ((X.setCell ⟨p, 0, none⟩ (.int .i64 x)).setCell ⟨q, 1, none⟩ (.int .i64 y)) (· = q) := (Kept.refl _ (fun k => k = q)).setCell (fun _ => rfl) _
  exact ⟨(h.st0.kept k1 (fun e => h2 e.symm)).kept k2 (fun e => h3 e.symm), (h.st1.set0 x).kept k2 h1, (h.st2.kept k1 (fun e => h1 e.symm)).set1 y, ((h.bel.setCell h4 _).setCell h5 _)⟩
/-- Apply by numbers that are written out, with three styles beside -/
theorem apply_three {f g a : Int} {R s t u : sg.St} {B p q : Nat} (zs : List Int) (w : World) (ht : Tabs w) (hl : zs.length ≤ 1000) (hI : ∀ z ∈ zs, I64 z) (hR : sg.apply ⟨f, g, a⟩ zs = R) (Y : World) (n : Nat) (hn : Y.heap.size = n) (h3 : Three w Y B p q s t u) :
    Calls Tryd.prog 9 #[.agg #[.int .i64 f, .int .i64 g, .int .i64 a], .slice (some ⟨n, 0, none⟩) zs.length zs.length] (Y.alloc (.cells (zs.map (Value.int .i64)).toArray 3)) fun e w' => e = .returned (stV R) ∧ Three w w' B p q s t u :=
  (apply_lit f g a zs n Y hn (ht.below h3.bel ht.two) hl hI).mono fun e w' ⟨he, hb⟩ => ⟨by rw [he, hR], h3.call hb⟩
theorem apply_three_d {f g a : Int} {R s t u : sg.St} {B p q : Nat} (zs : List Int) (w : World) (ht : Tabs w) (hl : zs.length ≤ 1000) (hI : ∀ z ∈ zs, I64 z) (hR : sg.apply ⟨f, g, a⟩ zs = R) (Y : World) (n : Nat) (hn : Y.heap.size = n) (h3 : Three w Y.drew B p q s t u) :
    Calls Tryd.prog 9 #[.agg #[.int .i64 f, .int .i64 g, .int .i64 a], .slice (some ⟨n, 0, none⟩) zs.length zs.length] (Y.alloc (.cells (zs.map (Value.int .i64)).toArray 3)).drew fun e w' => e = .returned (stV R) ∧ Three w w' B p q s t u :=
  apply_three zs w ht hl hI hR Y.drew n hn h3

theorem sOf {w X : World} {B p q : Nat} {s t u : sg.St} (h : Three w X B p q s t u) : (Three w X B p q s t u ∧ X.cell? ⟨B, 0, none⟩ = some (.int .i64 s.fg) ∧ X.cell? ⟨B, 1, none⟩ = some (.int .i64 s.bg) ∧ X.cell? ⟨B, 2, none⟩ = some (.int .i64 s.at_) ∧ X.cell? ⟨p, 0, none⟩ = some (.int .i64 t.fg) ∧ X.cell? ⟨p, 1, none⟩ = some (.int .i64 t.bg) ∧ X.cell? ⟨p, 2, none⟩ = some (.int .i64 t.at_) ∧ X.cell? ⟨q, 0, none⟩ = some (.int .i64 u.fg) ∧ X.cell? ⟨q, 1, none⟩ = some (.int .i64 u.bg) ∧ X.cell? ⟨q, 2, none⟩ = some (.int .i64 u.at_)) :=
  ⟨h, h.st0.cells.c0, h.st0.cells.c1, h.st0.cells.c2, h.st1.cells.c0, h.st1.cells.c1, h.st1.cells.c2, h.st2.cells.c0, h.st2.cells.c1, h.st2.cells.c2⟩
theorem sAl {w X : World} {B p q : Nat} {s t u : sg.St} {o : Obj} (h : (Three w X B p q s t u ∧ X.cell? ⟨B, 0, none⟩ = some (.int .i64 s.fg) ∧ X.cell? ⟨B, 1, none⟩ = some (.int .i64 s.bg) ∧ X.cell? ⟨B, 2, none⟩ = some (.int .i64 s.at_) ∧ X.cell? ⟨p, 0, none⟩ = some (.int .i64 t.fg) ∧ X.cell? ⟨p, 1, none⟩ = some (.int .i64 t.bg) ∧ X.cell? ⟨p, 2, none⟩ = some (.int .i64 t.at_) ∧ X.cell? ⟨q, 0, none⟩ = some (.int .i64 u.fg) ∧ X.cell? ⟨q, 1, none⟩ = some (.int .i64 u.bg) ∧ X.cell? ⟨q, 2, none⟩ = some (.int .i64 u.at_))) : (Three w (X.alloc o) B p q s t u ∧ (X.alloc o).cell? ⟨B, 0, none⟩ = some (.int .i64 s.fg) ∧ (X.alloc o).cell? ⟨B, 1, none⟩ = some (.int .i64 s.bg) ∧ (X.alloc o).cell? ⟨B, 2, none⟩ = some (.int .i64 s.at_) ∧ (X.alloc o).cell? ⟨p, 0, none⟩ = some (.int .i64 t.fg) ∧ (X.alloc o).cell? ⟨p, 1, none⟩ = some (.int .i64 t.bg) ∧ (X.alloc o).cell? ⟨p, 2, none⟩ = some (.int .i64 t.at_) ∧ (X.alloc o).cell? ⟨q, 0, none⟩ = some (.int .i64 u.fg) ∧ (X.alloc o).cell? ⟨q, 1, none⟩ = some (.int .i64 u.bg) ∧ (X.alloc o).cell? ⟨q, 2, none⟩ = some (.int .i64 u.at_)) := sOf (h.1.call (below_one X o))
theorem sDr {w X : World} {B p q : Nat} {s t u : sg.St} (h : (Three w X B p q s t u ∧ X.cell? ⟨B, 0, none⟩ = some (.int .i64 s.fg) ∧ X.cell? ⟨B, 1, none⟩ = some (.int .i64 s.bg) ∧ X.cell? ⟨B, 2, none⟩ = some (.int .i64 s.at_) ∧ X.cell? ⟨p, 0, none⟩ = some (.int .i64 t.fg) ∧ X.cell? ⟨p, 1, none⟩ = some (.int .i64 t.bg) ∧ X.cell? ⟨p, 2, none⟩ = some (.int .i64 t.at_) ∧ X.cell? ⟨q, 0, none⟩ = some (.int .i64 u.fg) ∧ X.cell? ⟨q, 1, none⟩ = some (.int .i64 u.bg) ∧ X.cell? ⟨q, 2, none⟩ = some (.int .i64 u.at_))) : (Three w X.drew B p q s t u ∧ X.drew.cell? ⟨B, 0, none⟩ = some (.int .i64 s.fg) ∧ X.drew.cell? ⟨B, 1, none⟩ = some (.int .i64 s.bg) ∧ X.drew.cell? ⟨B, 2, none⟩ = some (.int .i64 s.at_) ∧ X.drew.cell? ⟨p, 0, none⟩ = some (.int .i64 t.fg) ∧ X.drew.cell? ⟨p, 1, none⟩ = some (.int .i64 t.bg) ∧ X.drew.cell? ⟨p, 2, none⟩ = some (.int .i64 t.at_) ∧ X.drew.cell? ⟨q, 0, none⟩ = some (.int .i64 u.fg) ∧ X.drew.cell? ⟨q, 1, none⟩ = some (.int .i64 u.bg) ∧ X.drew.cell? ⟨q, 2, none⟩ = some (.int .i64 u.at_)) := sOf h.1.drew

set_option maxRecDepth 100000 in
set_option maxHeartbeats 8000000 in
theorem colours_any (f g a n r gg bb : Int) (w : World) (ht : Tabs w) (_ : I64 n) (_ : I64 r) (_ : I64 gg) (_ : I64 bb) :
    Calls Tryd.prog 7 #[.agg #[.int .i64 f, .int .i64 g, .int .i64 a], .int .i64 n, .int .i64 r, .int .i64 gg, .int .i64 bb] w fun e w' => e = .returned (.bool true) ∧ Below w.heap.size w w' := by
  have z1 := eqgst
  have z2 := run_eq_st
  have z3 := run_ne_st
  have hT := one_after (Below.refl (w.alloc (stObj ⟨f, g, a⟩)).heap.size (w.alloc (stObj ⟨f, g, a⟩)))
  have h2 := ht.two
  have HT := Lib.hid ht
  have H0 := Lib.hid hT
  clear ht hT
  go_enter Tryd.func7, Tryd.ntmps7
  go_wp2_with fail
  refine (alive_any _ (HT.out.below H0.out.2 HT.out.two)).mono ?_
  rintro e w1 ⟨rfl, hb⟩
  have hst : StAt w1 w.heap.size ⟨f, g, a⟩ := H0.out.1.below hb H0.out.1.cells.lt
  have hbl : Below w.heap.size w w1 := H0.out.2.trans (hb.mono (Nat.le_of_lt H0.out.1.cells.lt))
  obtain ⟨k0, k1, k2, f0, f1, f2, u0⟩ := hst.cells
  have HS := Lib.hid hst; have HBL := Lib.hid hbl
  clear hb hst hbl H0
  go_wp2_with fail
  refine (right_any f g a _).mono ?_
  rintro e w2 ⟨rfl, hb⟩
  have HS2 := Lib.hid (HS.out.below hb u0); have HBL2 := Lib.hid (HBL.out.trans (hb.mono (Nat.le_of_lt u0)))
  clear hb k0 k1 k2 f0 f1 f2 u0 HS HBL
  obtain ⟨k0, k1, k2, f0, f1, f2, u0⟩ := HS2.out.cells
  by_cases hr : sg.right ⟨f, g, a⟩ = true
  · rw [hr]
    have HR := Lib.hid hr
    clear hr
    have hn' := low_byte n; have hrr := low_byte r; have hgg := low_byte gg; have hbb := low_byte bb
    generalize hN : bits .and .i64 n 255 = N at *
    generalize hR : bits .and .i64 r 255 = R at *
    generalize hG : bits .and .i64 gg 255 = G at *
    generalize hB : bits .and .i64 bb 255 = B at *
    have N1 := hN; have R1 := hR; have G1 := hG; have B1 := hB
    clear hN hR hG hB
    go_wp2_with fail
    go_cut [11, 12] (fun s11 s12 X => ∃ p q : Nat, s11 = .pointer (some ⟨p, 0, none⟩) ∧ s12 = .pointer (some ⟨q, 0, none⟩) ∧ p ≠ q ∧ p ≠ w.heap.size ∧ q ≠ w.heap.size ∧ w.heap.size ≤ p ∧ w.heap.size ≤ q ∧ Three w X w.heap.size p q ⟨f, g, a⟩ ⟨f, g, a⟩ ⟨f, g, a⟩)
    case first =>
      go_region
      · go_wp2_with fail
        go_meet
        refine ⟨_, _, rfl, rfl, by omega, by omega, by omega, by omega, by omega, three_new HS2.out HBL2.out ⟨f, g, a⟩ ⟨f, g, a⟩⟩
      · go_wp2_with fail
        go_meet
        refine ⟨_, _, rfl, rfl, by omega, by omega, by omega, by omega, by omega, (three_new HS2.out HBL2.out ⟨f, g, a⟩ ⟨f, g, a⟩).swap⟩
    case rest =>
    obtain ⟨p, q, rfl, rfl, n1, n2, n3, l1, l2, h3⟩ := hcut
    have T1 := h3.fgbg n1 n2 n3 l1 l2 (N + 1) (N + 1)
    have HN := Lib.hid (And.intro n1 (And.intro n2 (And.intro n3 (And.intro l1 l2))))
    obtain ⟨c0, c1, c2, d0, d1, d2, v0⟩ := h3.st1.cells
    obtain ⟨c3, c4, c5, d3, d4, d5, v1⟩ := h3.st2.cells
    clear k0 k1 k2 f0 f1 f2 u0 HS2 HBL2 h3
    go_upto_region 12 with fail
    have T0 := T1
    replace T1 : Three w ((wc.setCell ⟨p, 0, none⟩ (.int .i64 (N + 1))).setCell ⟨q, 1, none⟩ (.int .i64 (N + 1))).drew w.heap.size p q ⟨f, g, a⟩ ⟨N + 1, g, a⟩ ⟨f, N + 1, a⟩ := T1.drew
    generalize ((wc.setCell ⟨p, 0, none⟩ (.int .i64 (N + 1))).setCell ⟨q, 1, none⟩ (.int .i64 (N + 1))) = X at *
    clear c0 c1 c2 d0 d1 d2 v0 c3 c4 c5 d3 d4 d5 v1 n1 n2 n3 l1 l2
    have C1 : Hid (∀ (Y : World) (n : Nat), Y.heap.size = n → Three w Y w.heap.size p q ⟨f, g, a⟩ ⟨N + 1, g, a⟩ ⟨f, N + 1, a⟩ → Calls Tryd.prog 9 #[.agg #[.int .i64 f, .int .i64 g, .int .i64 a], .slice (some ⟨n, 0, none⟩) 3 3] (Y.alloc (.cells #[.int .i64 38, .int .i64 5, .int .i64 N] 3)) fun e w' => e = .returned (stV ⟨N + 1, g, a⟩) ∧ Three w w' w.heap.size p q ⟨f, g, a⟩ ⟨N + 1, g, a⟩ ⟨f, N + 1, a⟩) := Lib.hid (fun Y n hn h3 => apply_three (f := f) (g := g) (a := a) (R := ⟨N + 1, g, a⟩) [38, 5, N] w HT.out (by simp) (by intro z hz; simp at hz; unfold I64; omega) (mk_fg5 HR.out N hn') Y n hn h3)
    have D1 : Hid (∀ (Y : World) (n : Nat), Y.heap.size = n → Three w Y.drew w.heap.size p q ⟨f, g, a⟩ ⟨N + 1, g, a⟩ ⟨f, N + 1, a⟩ → Calls Tryd.prog 9 #[.agg #[.int .i64 f, .int .i64 g, .int .i64 a], .slice (some ⟨n, 0, none⟩) 3 3] (Y.alloc (.cells #[.int .i64 38, .int .i64 5, .int .i64 N] 3)).drew fun e w' => e = .returned (stV ⟨N + 1, g, a⟩) ∧ Three w w' w.heap.size p q ⟨f, g, a⟩ ⟨N + 1, g, a⟩ ⟨f, N + 1, a⟩) := Lib.hid (fun Y n hn h3 => apply_three_d (f := f) (g := g) (a := a) (R := ⟨N + 1, g, a⟩) [38, 5, N] w HT.out (by simp) (by intro z hz; simp at hz; unfold I64; omega) (mk_fg5 HR.out N hn') Y n hn h3)
    have C2 : Hid (∀ (Y : World) (n : Nat), Y.heap.size = n → Three w Y w.heap.size p q ⟨f, g, a⟩ ⟨N + 1, g, a⟩ ⟨f, N + 1, a⟩ → Calls Tryd.prog 9 #[.agg #[.int .i64 f, .int .i64 g, .int .i64 a], .slice (some ⟨n, 0, none⟩) 3 3] (Y.alloc (.cells #[.int .i64 48, .int .i64 5, .int .i64 N] 3)) fun e w' => e = .returned (stV ⟨f, N + 1, a⟩) ∧ Three w w' w.heap.size p q ⟨f, g, a⟩ ⟨N + 1, g, a⟩ ⟨f, N + 1, a⟩) := Lib.hid (fun Y n hn h3 => apply_three (f := f) (g := g) (a := a) (R := ⟨f, N + 1, a⟩) [48, 5, N] w HT.out (by simp) (by intro z hz; simp at hz; unfold I64; omega) (mk_bg5 HR.out N hn') Y n hn h3)
    have D2 : Hid (∀ (Y : World) (n : Nat), Y.heap.size = n → Three w Y.drew w.heap.size p q ⟨f, g, a⟩ ⟨N + 1, g, a⟩ ⟨f, N + 1, a⟩ → Calls Tryd.prog 9 #[.agg #[.int .i64 f, .int .i64 g, .int .i64 a], .slice (some ⟨n, 0, none⟩) 3 3] (Y.alloc (.cells #[.int .i64 48, .int .i64 5, .int .i64 N] 3)).drew fun e w' => e = .returned (stV ⟨f, N + 1, a⟩) ∧ Three w w' w.heap.size p q ⟨f, g, a⟩ ⟨N + 1, g, a⟩ ⟨f, N + 1, a⟩) := Lib.hid (fun Y n hn h3 => apply_three_d (f := f) (g := g) (a := a) (R := ⟨f, N + 1, a⟩) [48, 5, N] w HT.out (by simp) (by intro z hz; simp at hz; unfold I64; omega) (mk_bg5 HR.out N hn') Y n hn h3)
    have e1 := eq3_self (N + 1) g a
    have e2 := eq3_self f (N + 1) a
    have sX : (Three w X w.heap.size p q ⟨f, g, a⟩ ⟨N + 1, g, a⟩ ⟨f, N + 1, a⟩ ∧ X.cell? ⟨w.heap.size, 0, none⟩ = some (.int .i64 (f)) ∧ X.cell? ⟨w.heap.size, 1, none⟩ = some (.int .i64 (g)) ∧ X.cell? ⟨w.heap.size, 2, none⟩ = some (.int .i64 (a)) ∧ X.cell? ⟨p, 0, none⟩ = some (.int .i64 (N + 1)) ∧ X.cell? ⟨p, 1, none⟩ = some (.int .i64 (g)) ∧ X.cell? ⟨p, 2, none⟩ = some (.int .i64 (a)) ∧ X.cell? ⟨q, 0, none⟩ = some (.int .i64 (f)) ∧ X.cell? ⟨q, 1, none⟩ = some (.int .i64 (N + 1)) ∧ X.cell? ⟨q, 2, none⟩ = some (.int .i64 (a))) := sOf T0
    have sD : (Three w X.drew w.heap.size p q ⟨f, g, a⟩ ⟨N + 1, g, a⟩ ⟨f, N + 1, a⟩ ∧ X.drew.cell? ⟨w.heap.size, 0, none⟩ = some (.int .i64 (f)) ∧ X.drew.cell? ⟨w.heap.size, 1, none⟩ = some (.int .i64 (g)) ∧ X.drew.cell? ⟨w.heap.size, 2, none⟩ = some (.int .i64 (a)) ∧ X.drew.cell? ⟨p, 0, none⟩ = some (.int .i64 (N + 1)) ∧ X.drew.cell? ⟨p, 1, none⟩ = some (.int .i64 (g)) ∧ X.drew.cell? ⟨p, 2, none⟩ = some (.int .i64 (a)) ∧ X.drew.cell? ⟨q, 0, none⟩ = some (.int .i64 (f)) ∧ X.drew.cell? ⟨q, 1, none⟩ = some (.int .i64 (N + 1)) ∧ X.drew.cell? ⟨q, 2, none⟩ = some (.int .i64 (a))) := sOf T1
    obtain ⟨_, c0, c1, c2, c3, c4, c5, c6, c7, c8⟩ := id sX
    have c9 := T0.st0.cells.lt; have ca := T0.st1.cells.lt; have cb := T0.st2.cells.lt
    replace T0 := Lib.hid T0; replace T1 := Lib.hid T1
    go_region_held3 (fun X => (Three w X w.heap.size p q ⟨f, g, a⟩ ⟨N + 1, g, a⟩ ⟨f, N + 1, a⟩ ∧ X.cell? ⟨w.heap.size, 0, none⟩ = some (.int .i64 (f)) ∧ X.cell? ⟨w.heap.size, 1, none⟩ = some (.int .i64 (g)) ∧ X.cell? ⟨w.heap.size, 2, none⟩ = some (.int .i64 (a)) ∧ X.cell? ⟨p, 0, none⟩ = some (.int .i64 (N + 1)) ∧ X.cell? ⟨p, 1, none⟩ = some (.int .i64 (g)) ∧ X.cell? ⟨p, 2, none⟩ = some (.int .i64 (a)) ∧ X.cell? ⟨q, 0, none⟩ = some (.int .i64 (f)) ∧ X.cell? ⟨q, 1, none⟩ = some (.int .i64 (N + 1)) ∧ X.cell? ⟨q, 2, none⟩ = some (.int .i64 (a)))) (with_reducible (first | exact sX | exact sD | assumption | exact sAl (by assumption) | exact sDr (sAl sX) | exact sDr (by assumption)))
      (first
      | ((go_at_call 9); (with_reducible refine (D1.out _ _ ?hnx1 ?htx1).mono ?_); (case hnx1 => rfl); (case htx1 => first | exact sX.1 | exact sD.1 | (apply And.left; assumption)); rintro e w0x ⟨rfl, T0x⟩; have s0x : (Three w w0x w.heap.size p q ⟨f, g, a⟩ ⟨N + 1, g, a⟩ ⟨f, N + 1, a⟩ ∧ w0x.cell? ⟨w.heap.size, 0, none⟩ = some (.int .i64 (f)) ∧ w0x.cell? ⟨w.heap.size, 1, none⟩ = some (.int .i64 (g)) ∧ w0x.cell? ⟨w.heap.size, 2, none⟩ = some (.int .i64 (a)) ∧ w0x.cell? ⟨p, 0, none⟩ = some (.int .i64 (N + 1)) ∧ w0x.cell? ⟨p, 1, none⟩ = some (.int .i64 (g)) ∧ w0x.cell? ⟨p, 2, none⟩ = some (.int .i64 (a)) ∧ w0x.cell? ⟨q, 0, none⟩ = some (.int .i64 (f)) ∧ w0x.cell? ⟨q, 1, none⟩ = some (.int .i64 (N + 1)) ∧ w0x.cell? ⟨q, 2, none⟩ = some (.int .i64 (a))) := sOf T0x; clear T0x)
      | ((go_at_call 9); (with_reducible refine (C1.out _ _ ?hnx2 ?htx2).mono ?_); (case hnx2 => rfl); (case htx2 => first | exact sX.1 | exact sD.1 | (apply And.left; assumption)); rintro e w0x ⟨rfl, T0x⟩; have s0x : (Three w w0x w.heap.size p q ⟨f, g, a⟩ ⟨N + 1, g, a⟩ ⟨f, N + 1, a⟩ ∧ w0x.cell? ⟨w.heap.size, 0, none⟩ = some (.int .i64 (f)) ∧ w0x.cell? ⟨w.heap.size, 1, none⟩ = some (.int .i64 (g)) ∧ w0x.cell? ⟨w.heap.size, 2, none⟩ = some (.int .i64 (a)) ∧ w0x.cell? ⟨p, 0, none⟩ = some (.int .i64 (N + 1)) ∧ w0x.cell? ⟨p, 1, none⟩ = some (.int .i64 (g)) ∧ w0x.cell? ⟨p, 2, none⟩ = some (.int .i64 (a)) ∧ w0x.cell? ⟨q, 0, none⟩ = some (.int .i64 (f)) ∧ w0x.cell? ⟨q, 1, none⟩ = some (.int .i64 (N + 1)) ∧ w0x.cell? ⟨q, 2, none⟩ = some (.int .i64 (a))) := sOf T0x; clear T0x)
      | ((go_at_call 9); (with_reducible refine (D2.out _ _ ?hnx3 ?htx3).mono ?_); (case hnx3 => rfl); (case htx3 => first | exact sX.1 | exact sD.1 | (apply And.left; assumption)); rintro e w1x ⟨rfl, T1x⟩; have s1x : (Three w w1x w.heap.size p q ⟨f, g, a⟩ ⟨N + 1, g, a⟩ ⟨f, N + 1, a⟩ ∧ w1x.cell? ⟨w.heap.size, 0, none⟩ = some (.int .i64 (f)) ∧ w1x.cell? ⟨w.heap.size, 1, none⟩ = some (.int .i64 (g)) ∧ w1x.cell? ⟨w.heap.size, 2, none⟩ = some (.int .i64 (a)) ∧ w1x.cell? ⟨p, 0, none⟩ = some (.int .i64 (N + 1)) ∧ w1x.cell? ⟨p, 1, none⟩ = some (.int .i64 (g)) ∧ w1x.cell? ⟨p, 2, none⟩ = some (.int .i64 (a)) ∧ w1x.cell? ⟨q, 0, none⟩ = some (.int .i64 (f)) ∧ w1x.cell? ⟨q, 1, none⟩ = some (.int .i64 (N + 1)) ∧ w1x.cell? ⟨q, 2, none⟩ = some (.int .i64 (a))) := sOf T1x; clear T1x)
      | ((go_at_call 9); (with_reducible refine (C2.out _ _ ?hnx4 ?htx4).mono ?_); (case hnx4 => rfl); (case htx4 => first | exact sX.1 | exact sD.1 | (apply And.left; assumption)); rintro e w1x ⟨rfl, T1x⟩; have s1x : (Three w w1x w.heap.size p q ⟨f, g, a⟩ ⟨N + 1, g, a⟩ ⟨f, N + 1, a⟩ ∧ w1x.cell? ⟨w.heap.size, 0, none⟩ = some (.int .i64 (f)) ∧ w1x.cell? ⟨w.heap.size, 1, none⟩ = some (.int .i64 (g)) ∧ w1x.cell? ⟨w.heap.size, 2, none⟩ = some (.int .i64 (a)) ∧ w1x.cell? ⟨p, 0, none⟩ = some (.int .i64 (N + 1)) ∧ w1x.cell? ⟨p, 1, none⟩ = some (.int .i64 (g)) ∧ w1x.cell? ⟨p, 2, none⟩ = some (.int .i64 (a)) ∧ w1x.cell? ⟨q, 0, none⟩ = some (.int .i64 (f)) ∧ w1x.cell? ⟨q, 1, none⟩ = some (.int .i64 (N + 1)) ∧ w1x.cell? ⟨q, 2, none⟩ = some (.int .i64 (a))) := sOf T1x; clear T1x))
    rename_i sW
    have TW := sW.1
    have HTW := Lib.hid TW
    clear TW
    clear sW sX sD c0 c1 c2 c3 c4 c5 c6 c7 c8 c9 ca cb C1 C2 D1 D2 T0 T1
    generalize w1x = w1y at *
    go_wp2_with fail
    go_cut [98] (fun s98 Y => s98 = .bool false ∧ Three w Y w.heap.size p q ⟨f, g, a⟩ ⟨N + 1, g, a⟩ ⟨f, N + 1, a⟩)
    case first =>
      rcases (show N < 8 ∨ (8 ≤ N ∧ N < 16) ∨ 16 ≤ N by omega) with hN8 | ⟨hN8, hN16⟩ | hN16
      · have T0a := HTW.out
        have Ca0 : Hid (∀ (Y : World) (n : Nat), Y.heap.size = n → Three w Y w.heap.size p q ⟨f, g, a⟩ ⟨N + 1, g, a⟩ ⟨f, N + 1, a⟩ → Calls Tryd.prog 9 #[.agg #[.int .i64 f, .int .i64 g, .int .i64 a], .slice (some ⟨n, 0, none⟩) 1 1] (Y.alloc (.cells #[.int .i64 (30 + N)] 3)) fun e w' => e = .returned (stV ⟨N + 1, g, a⟩) ∧ Three w w' w.heap.size p q ⟨f, g, a⟩ ⟨N + 1, g, a⟩ ⟨f, N + 1, a⟩) := Lib.hid (fun Y n hn h3 => apply_three (f := f) (g := g) (a := a) (R := ⟨N + 1, g, a⟩) [30 + N] w HT.out (by simp) (by intro z hz; simp at hz; unfold I64; omega) (mk_fg8 HR.out N ⟨by omega, by omega⟩) Y n hn h3)
        have Da0 : Hid (∀ (Y : World) (n : Nat), Y.heap.size = n → Three w Y.drew w.heap.size p q ⟨f, g, a⟩ ⟨N + 1, g, a⟩ ⟨f, N + 1, a⟩ → Calls Tryd.prog 9 #[.agg #[.int .i64 f, .int .i64 g, .int .i64 a], .slice (some ⟨n, 0, none⟩) 1 1] (Y.alloc (.cells #[.int .i64 (30 + N)] 3)).drew fun e w' => e = .returned (stV ⟨N + 1, g, a⟩) ∧ Three w w' w.heap.size p q ⟨f, g, a⟩ ⟨N + 1, g, a⟩ ⟨f, N + 1, a⟩) := Lib.hid (fun Y n hn h3 => apply_three_d (f := f) (g := g) (a := a) (R := ⟨N + 1, g, a⟩) [30 + N] w HT.out (by simp) (by intro z hz; simp at hz; unfold I64; omega) (mk_fg8 HR.out N ⟨by omega, by omega⟩) Y n hn h3)
        have ea0 := eq3_self (N + 1) (g) (a)
        have Ca1 : Hid (∀ (Y : World) (n : Nat), Y.heap.size = n → Three w Y w.heap.size p q ⟨f, g, a⟩ ⟨N + 1, g, a⟩ ⟨f, N + 1, a⟩ → Calls Tryd.prog 9 #[.agg #[.int .i64 f, .int .i64 g, .int .i64 a], .slice (some ⟨n, 0, none⟩) 1 1] (Y.alloc (.cells #[.int .i64 (40 + N)] 3)) fun e w' => e = .returned (stV ⟨f, N + 1, a⟩) ∧ Three w w' w.heap.size p q ⟨f, g, a⟩ ⟨N + 1, g, a⟩ ⟨f, N + 1, a⟩) := Lib.hid (fun Y n hn h3 => apply_three (f := f) (g := g) (a := a) (R := ⟨f, N + 1, a⟩) [40 + N] w HT.out (by simp) (by intro z hz; simp at hz; unfold I64; omega) (mk_bg8 HR.out N ⟨by omega, by omega⟩) Y n hn h3)
        have Da1 : Hid (∀ (Y : World) (n : Nat), Y.heap.size = n → Three w Y.drew w.heap.size p q ⟨f, g, a⟩ ⟨N + 1, g, a⟩ ⟨f, N + 1, a⟩ → Calls Tryd.prog 9 #[.agg #[.int .i64 f, .int .i64 g, .int .i64 a], .slice (some ⟨n, 0, none⟩) 1 1] (Y.alloc (.cells #[.int .i64 (40 + N)] 3)).drew fun e w' => e = .returned (stV ⟨f, N + 1, a⟩) ∧ Three w w' w.heap.size p q ⟨f, g, a⟩ ⟨N + 1, g, a⟩ ⟨f, N + 1, a⟩) := Lib.hid (fun Y n hn h3 => apply_three_d (f := f) (g := g) (a := a) (R := ⟨f, N + 1, a⟩) [40 + N] w HT.out (by simp) (by intro z hz; simp at hz; unfold I64; omega) (mk_bg8 HR.out N ⟨by omega, by omega⟩) Y n hn h3)
        have ea1 := eq3_self (f) (N + 1) (a)
        have sXa : (Three w w1y w.heap.size p q ⟨f, g, a⟩ ⟨N + 1, g, a⟩ ⟨f, N + 1, a⟩ ∧ w1y.cell? ⟨w.heap.size, 0, none⟩ = some (.int .i64 (f)) ∧ w1y.cell? ⟨w.heap.size, 1, none⟩ = some (.int .i64 (g)) ∧ w1y.cell? ⟨w.heap.size, 2, none⟩ = some (.int .i64 (a)) ∧ w1y.cell? ⟨p, 0, none⟩ = some (.int .i64 (N + 1)) ∧ w1y.cell? ⟨p, 1, none⟩ = some (.int .i64 (g)) ∧ w1y.cell? ⟨p, 2, none⟩ = some (.int .i64 (a)) ∧ w1y.cell? ⟨q, 0, none⟩ = some (.int .i64 (f)) ∧ w1y.cell? ⟨q, 1, none⟩ = some (.int .i64 (N + 1)) ∧ w1y.cell? ⟨q, 2, none⟩ = some (.int .i64 (a))) := sOf T0a
        have sDa : (Three w w1y.drew w.heap.size p q ⟨f, g, a⟩ ⟨N + 1, g, a⟩ ⟨f, N + 1, a⟩ ∧ w1y.drew.cell? ⟨w.heap.size, 0, none⟩ = some (.int .i64 (f)) ∧ w1y.drew.cell? ⟨w.heap.size, 1, none⟩ = some (.int .i64 (g)) ∧ w1y.drew.cell? ⟨w.heap.size, 2, none⟩ = some (.int .i64 (a)) ∧ w1y.drew.cell? ⟨p, 0, none⟩ = some (.int .i64 (N + 1)) ∧ w1y.drew.cell? ⟨p, 1, none⟩ = some (.int .i64 (g)) ∧ w1y.drew.cell? ⟨p, 2, none⟩ = some (.int .i64 (a)) ∧ w1y.drew.cell? ⟨q, 0, none⟩ = some (.int .i64 (f)) ∧ w1y.drew.cell? ⟨q, 1, none⟩ = some (.int .i64 (N + 1)) ∧ w1y.drew.cell? ⟨q, 2, none⟩ = some (.int .i64 (a))) := sOf T0a.drew
        obtain ⟨_, c0a, c1a, c2a, c3a, c4a, c5a, c6a, c7a, c8a⟩ := id sXa
        have c9a := T0a.st0.cells.lt; have caa := T0a.st1.cells.lt; have cba := T0a.st2.cells.lt
        replace T0a := Lib.hid T0a
        have hwa0 : IntKind.i64.wrap (30 + N) = 30 + N := by rw [IntKind.wrap_i64]; omega
        have hwa1 : IntKind.i64.wrap (40 + N) = 40 + N := by rw [IntKind.wrap_i64]; omega
        have hg8 : decide ((8 : Int) ≤ N) = false := decide_eq_false (by omega)
        refine wp_region_noPanic ?_
        refine wp_region_held_drew (S := (fun X => (Three w X w.heap.size p q ⟨f, g, a⟩ ⟨N + 1, g, a⟩ ⟨f, N + 1, a⟩ ∧ X.cell? ⟨w.heap.size, 0, none⟩ = some (.int .i64 (f)) ∧ X.cell? ⟨w.heap.size, 1, none⟩ = some (.int .i64 (g)) ∧ X.cell? ⟨w.heap.size, 2, none⟩ = some (.int .i64 (a)) ∧ X.cell? ⟨p, 0, none⟩ = some (.int .i64 (N + 1)) ∧ X.cell? ⟨p, 1, none⟩ = some (.int .i64 (g)) ∧ X.cell? ⟨p, 2, none⟩ = some (.int .i64 (a)) ∧ X.cell? ⟨q, 0, none⟩ = some (.int .i64 (f)) ∧ X.cell? ⟨q, 1, none⟩ = some (.int .i64 (N + 1)) ∧ X.cell? ⟨q, 2, none⟩ = some (.int .i64 (a))))) (by kernel_rfl) ?_ (fun hHeld => ?_)
        · ((try dsimp only); (with_reducible (first | exact sXa | exact sDa | assumption | exact sAl (by assumption) | exact sDr (sAl sXa) | exact sDr (by assumption))))
        refine wpAnyH_take (i := 0) (v := ?_) rfl (by kernel_rfl) (by kernel_rfl) (by kernel_rfl) (fun _ _ _ h => h) (Or.inl ⟨by rfl, ?_⟩) (by assumption) ?_
        rotate_left
        · ((intro w hSw); (try dsimp only at hSw); (try simp only [List.getElem_toArray, List.getElem_cons_zero]); (go_simp); (try with_reducible rfl))
        (try simp only [Act.put, List.setIfInBounds_toArray, List.set_cons_zero, List.set_cons_succ, List.getElem_toArray, List.getElem_cons_zero])
        refine wpAnyH_take (i := 1) (v := ?_) rfl (by kernel_rfl) (by kernel_rfl) (by kernel_rfl) (fun _ _ _ h => h) (Or.inl ⟨by rfl, ?_⟩) (by assumption) ?_
        rotate_left
        · ((intro w hSw); (try dsimp only at hSw); (try simp only [List.getElem_toArray, List.getElem_cons_succ, List.getElem_cons_zero]); (go_simp); (try with_reducible rfl))
        (try simp only [Act.put, List.setIfInBounds_toArray, List.set_cons_zero, List.set_cons_succ, List.getElem_toArray, List.getElem_cons_succ, List.getElem_cons_zero])
        refine wpAnyH_take (i := 2) (v := ?_) rfl (by kernel_rfl) (by kernel_rfl) (by kernel_rfl) (fun _ _ _ h => h) (Or.inl ⟨by rfl, ?_⟩) (by assumption) ?_
        rotate_left
        · ((intro w hSw); (try dsimp only at hSw); (try simp only [List.getElem_toArray, List.getElem_cons_succ, List.getElem_cons_zero]); (go_simp); (try with_reducible rfl))
        (try simp only [Act.put, List.setIfInBounds_toArray, List.set_cons_zero, List.set_cons_succ, List.getElem_toArray, List.getElem_cons_succ, List.getElem_cons_zero])
        refine wpAnyH_take (i := 3) (v := ?_) rfl (by kernel_rfl) (by kernel_rfl) (by kernel_rfl) (fun _ _ _ h => h) (Or.inl ⟨by rfl, ?_⟩) (by assumption) ?_
        rotate_left
        · ((intro w hSw); (try dsimp only at hSw); (try simp only [List.getElem_toArray, List.getElem_cons_succ, List.getElem_cons_zero]); (go_simp); (try with_reducible rfl))
        (try simp only [Act.put, List.setIfInBounds_toArray, List.set_cons_zero, List.set_cons_succ, List.getElem_toArray, List.getElem_cons_succ, List.getElem_cons_zero])
        refine wpAnyH_take (i := 4) (v := ?_) rfl (by kernel_rfl) (by kernel_rfl) (by kernel_rfl) (fun _ _ _ h => h) (Or.inl ⟨by rfl, ?_⟩) (by assumption) ?_
        rotate_left
        · ((intro w hSw); (try dsimp only at hSw); (try simp only [List.getElem_toArray, List.getElem_cons_succ, List.getElem_cons_zero]); (go_simp); (try with_reducible rfl))
        (try simp only [Act.put, List.setIfInBounds_toArray, List.set_cons_zero, List.set_cons_succ, List.getElem_toArray, List.getElem_cons_succ, List.getElem_cons_zero])
        refine wpAnyH_take (i := 5) (v := ?_) rfl (by kernel_rfl) (by kernel_rfl) (by kernel_rfl) (fun _ _ _ h => h) (Or.inl ⟨by rfl, ?_⟩) (by assumption) ?_
        rotate_left
        · ((intro w hSw); (try dsimp only at hSw); (try simp only [List.getElem_toArray, List.getElem_cons_succ, List.getElem_cons_zero]); (go_simp); (try with_reducible rfl))
        (try simp only [Act.put, List.setIfInBounds_toArray, List.set_cons_zero, List.set_cons_succ, List.getElem_toArray, List.getElem_cons_succ, List.getElem_cons_zero])
        refine wpAnyH_take (i := 8) (v := ?_) rfl (by kernel_rfl) (by kernel_rfl) (by kernel_rfl) (fun _ _ _ h => h) (Or.inl ⟨by rfl, ?_⟩) (by assumption) ?_
        rotate_left
        · ((intro w hSw); (try dsimp only at hSw); (try simp only [List.getElem_toArray, List.getElem_cons_succ, List.getElem_cons_zero]); (go_simp); (try with_reducible rfl))
        (try simp only [Act.put, List.setIfInBounds_toArray, List.set_cons_zero, List.set_cons_succ, List.getElem_toArray, List.getElem_cons_succ, List.getElem_cons_zero])
        refine wpAnyH_ready (rs := [6]) (by kernel_rfl) (by simp) ?_
        refine AllReadyH.cons rfl (fun K hK => ?_) AllReadyH.nil
        (try simp only [List.getElem_toArray, List.getElem_cons_succ, List.getElem_cons_zero])
        go_simp
        refine hK.out _ _ ?_ (fun hHeld => ?_)
        · ((try dsimp only); (with_reducible (first | exact sXa | exact sDa | assumption | exact sAl (by assumption) | exact sDr (sAl sXa) | exact sDr (by assumption))))
        clear hK K
        (try simp only [Act.put, List.setIfInBounds_toArray, List.set_cons_zero, List.set_cons_succ, List.getElem_toArray, List.getElem_cons_succ, List.getElem_cons_zero])
        refine wpAnyH_ready (rs := [7]) (by kernel_rfl) (by simp) ?_
        refine AllReadyH.cons rfl (fun K hK => ?_) AllReadyH.nil
        (try simp only [List.getElem_toArray, List.getElem_cons_succ, List.getElem_cons_zero])
        go_simp
        (first | ((go_at_call 9); (with_reducible refine (Da0.out _ _ ?hnDa0 ?htDa0).mono ?_); (case hnDa0 => rfl); (case htDa0 => first | exact sXa.1 | exact sDa.1 | (apply And.left; assumption)); rintro e va0 ⟨rfl, Tq⟩; have sqa0 : (Three w va0 w.heap.size p q ⟨f, g, a⟩ ⟨N + 1, g, a⟩ ⟨f, N + 1, a⟩ ∧ va0.cell? ⟨w.heap.size, 0, none⟩ = some (.int .i64 (f)) ∧ va0.cell? ⟨w.heap.size, 1, none⟩ = some (.int .i64 (g)) ∧ va0.cell? ⟨w.heap.size, 2, none⟩ = some (.int .i64 (a)) ∧ va0.cell? ⟨p, 0, none⟩ = some (.int .i64 (N + 1)) ∧ va0.cell? ⟨p, 1, none⟩ = some (.int .i64 (g)) ∧ va0.cell? ⟨p, 2, none⟩ = some (.int .i64 (a)) ∧ va0.cell? ⟨q, 0, none⟩ = some (.int .i64 (f)) ∧ va0.cell? ⟨q, 1, none⟩ = some (.int .i64 (N + 1)) ∧ va0.cell? ⟨q, 2, none⟩ = some (.int .i64 (a))) := sOf Tq; clear Tq) | ((go_at_call 9); (with_reducible refine (Ca0.out _ _ ?hnCa0 ?htCa0).mono ?_); (case hnCa0 => rfl); (case htCa0 => first | exact sXa.1 | exact sDa.1 | (apply And.left; assumption)); rintro e va0 ⟨rfl, Tq⟩; have sqa0 : (Three w va0 w.heap.size p q ⟨f, g, a⟩ ⟨N + 1, g, a⟩ ⟨f, N + 1, a⟩ ∧ va0.cell? ⟨w.heap.size, 0, none⟩ = some (.int .i64 (f)) ∧ va0.cell? ⟨w.heap.size, 1, none⟩ = some (.int .i64 (g)) ∧ va0.cell? ⟨w.heap.size, 2, none⟩ = some (.int .i64 (a)) ∧ va0.cell? ⟨p, 0, none⟩ = some (.int .i64 (N + 1)) ∧ va0.cell? ⟨p, 1, none⟩ = some (.int .i64 (g)) ∧ va0.cell? ⟨p, 2, none⟩ = some (.int .i64 (a)) ∧ va0.cell? ⟨q, 0, none⟩ = some (.int .i64 (f)) ∧ va0.cell? ⟨q, 1, none⟩ = some (.int .i64 (N + 1)) ∧ va0.cell? ⟨q, 2, none⟩ = some (.int .i64 (a))) := sOf Tq; clear Tq) | ((go_at_call 9); (with_reducible refine (Da1.out _ _ ?hnDa1 ?htDa1).mono ?_); (case hnDa1 => rfl); (case htDa1 => first | exact sXa.1 | exact sDa.1 | (apply And.left; assumption)); rintro e va1 ⟨rfl, Tq⟩; have sqa1 : (Three w va1 w.heap.size p q ⟨f, g, a⟩ ⟨N + 1, g, a⟩ ⟨f, N + 1, a⟩ ∧ va1.cell? ⟨w.heap.size, 0, none⟩ = some (.int .i64 (f)) ∧ va1.cell? ⟨w.heap.size, 1, none⟩ = some (.int .i64 (g)) ∧ va1.cell? ⟨w.heap.size, 2, none⟩ = some (.int .i64 (a)) ∧ va1.cell? ⟨p, 0, none⟩ = some (.int .i64 (N + 1)) ∧ va1.cell? ⟨p, 1, none⟩ = some (.int .i64 (g)) ∧ va1.cell? ⟨p, 2, none⟩ = some (.int .i64 (a)) ∧ va1.cell? ⟨q, 0, none⟩ = some (.int .i64 (f)) ∧ va1.cell? ⟨q, 1, none⟩ = some (.int .i64 (N + 1)) ∧ va1.cell? ⟨q, 2, none⟩ = some (.int .i64 (a))) := sOf Tq; clear Tq) | ((go_at_call 9); (with_reducible refine (Ca1.out _ _ ?hnCa1 ?htCa1).mono ?_); (case hnCa1 => rfl); (case htCa1 => first | exact sXa.1 | exact sDa.1 | (apply And.left; assumption)); rintro e va1 ⟨rfl, Tq⟩; have sqa1 : (Three w va1 w.heap.size p q ⟨f, g, a⟩ ⟨N + 1, g, a⟩ ⟨f, N + 1, a⟩ ∧ va1.cell? ⟨w.heap.size, 0, none⟩ = some (.int .i64 (f)) ∧ va1.cell? ⟨w.heap.size, 1, none⟩ = some (.int .i64 (g)) ∧ va1.cell? ⟨w.heap.size, 2, none⟩ = some (.int .i64 (a)) ∧ va1.cell? ⟨p, 0, none⟩ = some (.int .i64 (N + 1)) ∧ va1.cell? ⟨p, 1, none⟩ = some (.int .i64 (g)) ∧ va1.cell? ⟨p, 2, none⟩ = some (.int .i64 (a)) ∧ va1.cell? ⟨q, 0, none⟩ = some (.int .i64 (f)) ∧ va1.cell? ⟨q, 1, none⟩ = some (.int .i64 (N + 1)) ∧ va1.cell? ⟨q, 2, none⟩ = some (.int .i64 (a))) := sOf Tq; clear Tq))
        (try go_wp2_with fail)
        refine hK.out _ _ ?_ (fun hHeld => ?_)
        · ((try dsimp only); (with_reducible (first | exact sXa | exact sDa | assumption | exact sAl (by assumption) | exact sDr (sAl sXa) | exact sDr (by assumption))))
        clear hK K
        (try simp only [Act.put, List.setIfInBounds_toArray, List.set_cons_zero, List.set_cons_succ, List.getElem_toArray, List.getElem_cons_succ, List.getElem_cons_zero])
        refine wpAnyH_take (i := 9) (v := ?_) rfl (by kernel_rfl) (by kernel_rfl) (by kernel_rfl) (fun _ _ _ h => h) (Or.inl ⟨by rfl, ?_⟩) (by assumption) ?_
        rotate_left
        · ((intro w hSw); (try dsimp only at hSw); (try simp only [List.getElem_toArray, List.getElem_cons_succ, List.getElem_cons_zero]); (go_simp); (try with_reducible rfl))
        (try simp only [Act.put, List.setIfInBounds_toArray, List.set_cons_zero, List.set_cons_succ, List.getElem_toArray, List.getElem_cons_succ, List.getElem_cons_zero])
        refine wpAnyH_take (i := 10) (v := ?_) rfl (by kernel_rfl) (by kernel_rfl) (by kernel_rfl) (fun _ _ _ h => h) (Or.inl ⟨by rfl, ?_⟩) (by assumption) ?_
        rotate_left
        · ((intro w hSw); (try dsimp only at hSw); (try simp only [List.getElem_toArray, List.getElem_cons_succ, List.getElem_cons_zero]); (go_simp); (try with_reducible rfl))
        (try simp only [Act.put, List.setIfInBounds_toArray, List.set_cons_zero, List.set_cons_succ, List.getElem_toArray, List.getElem_cons_succ, List.getElem_cons_zero])
        refine wpAnyH_take (i := 11) (v := ?_) rfl (by kernel_rfl) (by kernel_rfl) (by kernel_rfl) (fun _ _ _ h => h) (Or.inl ⟨by rfl, ?_⟩) (by assumption) ?_
        rotate_left
        · ((intro w hSw); (try dsimp only at hSw); (try simp only [List.getElem_toArray, List.getElem_cons_succ, List.getElem_cons_zero]); (go_simp); (try with_reducible rfl))
        (try simp only [Act.put, List.setIfInBounds_toArray, List.set_cons_zero, List.set_cons_succ, List.getElem_toArray, List.getElem_cons_succ, List.getElem_cons_zero])
        refine wpAnyH_take (i := 12) (v := ?_) rfl (by kernel_rfl) (by kernel_rfl) (by kernel_rfl) (fun _ _ _ h => h) (Or.inl ⟨by rfl, ?_⟩) (by assumption) ?_
        rotate_left
        · ((intro w hSw); (try dsimp only at hSw); (try simp only [List.getElem_toArray, List.getElem_cons_succ, List.getElem_cons_zero]); (go_simp); (try with_reducible rfl))
        (try simp only [Act.put, List.setIfInBounds_toArray, List.set_cons_zero, List.set_cons_succ, List.getElem_toArray, List.getElem_cons_succ, List.getElem_cons_zero])
        refine wpAnyH_take (i := 13) (v := ?_) rfl (by kernel_rfl) (by kernel_rfl) (by kernel_rfl) (fun _ _ _ h => h) (Or.inl ⟨by rfl, ?_⟩) (by assumption) ?_
        rotate_left
        · ((intro w hSw); (try dsimp only at hSw); (try simp only [List.getElem_toArray, List.getElem_cons_succ, List.getElem_cons_zero]); (go_simp); (try with_reducible rfl))
        (try simp only [Act.put, List.setIfInBounds_toArray, List.set_cons_zero, List.set_cons_succ, List.getElem_toArray, List.getElem_cons_succ, List.getElem_cons_zero])
        refine wpAnyH_take (i := 16) (v := ?_) rfl (by kernel_rfl) (by kernel_rfl) (by kernel_rfl) (fun _ _ _ h => h) (Or.inl ⟨by rfl, ?_⟩) (by assumption) ?_
        rotate_left
        · ((intro w hSw); (try dsimp only at hSw); (try simp only [List.getElem_toArray, List.getElem_cons_succ, List.getElem_cons_zero]); (go_simp); (try with_reducible rfl))
        (try simp only [Act.put, List.setIfInBounds_toArray, List.set_cons_zero, List.set_cons_succ, List.getElem_toArray, List.getElem_cons_succ, List.getElem_cons_zero])
        refine wpAnyH_ready (rs := [14]) (by kernel_rfl) (by simp) ?_
        refine AllReadyH.cons rfl (fun K hK => ?_) AllReadyH.nil
        (try simp only [List.getElem_toArray, List.getElem_cons_succ, List.getElem_cons_zero])
        go_simp
        refine hK.out _ _ ?_ (fun hHeld => ?_)
        · ((try dsimp only); (with_reducible (first | exact sXa | exact sDa | assumption | exact sAl (by assumption) | exact sDr (sAl sXa) | exact sDr (by assumption))))
        clear hK K
        (try simp only [Act.put, List.setIfInBounds_toArray, List.set_cons_zero, List.set_cons_succ, List.getElem_toArray, List.getElem_cons_succ, List.getElem_cons_zero])
        refine wpAnyH_ready (rs := [15]) (by kernel_rfl) (by simp) ?_
        refine AllReadyH.cons rfl (fun K hK => ?_) AllReadyH.nil
        (try simp only [List.getElem_toArray, List.getElem_cons_succ, List.getElem_cons_zero])
        go_simp
        (first | ((go_at_call 9); (with_reducible refine (Da0.out _ _ ?hnDa0 ?htDa0).mono ?_); (case hnDa0 => rfl); (case htDa0 => first | exact sXa.1 | exact sDa.1 | (apply And.left; assumption)); rintro e va0 ⟨rfl, Tq⟩; have sqa0 : (Three w va0 w.heap.size p q ⟨f, g, a⟩ ⟨N + 1, g, a⟩ ⟨f, N + 1, a⟩ ∧ va0.cell? ⟨w.heap.size, 0, none⟩ = some (.int .i64 (f)) ∧ va0.cell? ⟨w.heap.size, 1, none⟩ = some (.int .i64 (g)) ∧ va0.cell? ⟨w.heap.size, 2, none⟩ = some (.int .i64 (a)) ∧ va0.cell? ⟨p, 0, none⟩ = some (.int .i64 (N + 1)) ∧ va0.cell? ⟨p, 1, none⟩ = some (.int .i64 (g)) ∧ va0.cell? ⟨p, 2, none⟩ = some (.int .i64 (a)) ∧ va0.cell? ⟨q, 0, none⟩ = some (.int .i64 (f)) ∧ va0.cell? ⟨q, 1, none⟩ = some (.int .i64 (N + 1)) ∧ va0.cell? ⟨q, 2, none⟩ = some (.int .i64 (a))) := sOf Tq; clear Tq) | ((go_at_call 9); (with_reducible refine (Ca0.out _ _ ?hnCa0 ?htCa0).mono ?_); (case hnCa0 => rfl); (case htCa0 => first | exact sXa.1 | exact sDa.1 | (apply And.left; assumption)); rintro e va0 ⟨rfl, Tq⟩; have sqa0 : (Three w va0 w.heap.size p q ⟨f, g, a⟩ ⟨N + 1, g, a⟩ ⟨f, N + 1, a⟩ ∧ va0.cell? ⟨w.heap.size, 0, none⟩ = some (.int .i64 (f)) ∧ va0.cell? ⟨w.heap.size, 1, none⟩ = some (.int .i64 (g)) ∧ va0.cell? ⟨w.heap.size, 2, none⟩ = some (.int .i64 (a)) ∧ va0.cell? ⟨p, 0, none⟩ = some (.int .i64 (N + 1)) ∧ va0.cell? ⟨p, 1, none⟩ = some (.int .i64 (g)) ∧ va0.cell? ⟨p, 2, none⟩ = some (.int .i64 (a)) ∧ va0.cell? ⟨q, 0, none⟩ = some (.int .i64 (f)) ∧ va0.cell? ⟨q, 1, none⟩ = some (.int .i64 (N + 1)) ∧ va0.cell? ⟨q, 2, none⟩ = some (.int .i64 (a))) := sOf Tq; clear Tq) | ((go_at_call 9); (with_reducible refine (Da1.out _ _ ?hnDa1 ?htDa1).mono ?_); (case hnDa1 => rfl); (case htDa1 => first | exact sXa.1 | exact sDa.1 | (apply And.left; assumption)); rintro e va1 ⟨rfl, Tq⟩; have sqa1 : (Three w va1 w.heap.size p q ⟨f, g, a⟩ ⟨N + 1, g, a⟩ ⟨f, N + 1, a⟩ ∧ va1.cell? ⟨w.heap.size, 0, none⟩ = some (.int .i64 (f)) ∧ va1.cell? ⟨w.heap.size, 1, none⟩ = some (.int .i64 (g)) ∧ va1.cell? ⟨w.heap.size, 2, none⟩ = some (.int .i64 (a)) ∧ va1.cell? ⟨p, 0, none⟩ = some (.int .i64 (N + 1)) ∧ va1.cell? ⟨p, 1, none⟩ = some (.int .i64 (g)) ∧ va1.cell? ⟨p, 2, none⟩ = some (.int .i64 (a)) ∧ va1.cell? ⟨q, 0, none⟩ = some (.int .i64 (f)) ∧ va1.cell? ⟨q, 1, none⟩ = some (.int .i64 (N + 1)) ∧ va1.cell? ⟨q, 2, none⟩ = some (.int .i64 (a))) := sOf Tq; clear Tq) | ((go_at_call 9); (with_reducible refine (Ca1.out _ _ ?hnCa1 ?htCa1).mono ?_); (case hnCa1 => rfl); (case htCa1 => first | exact sXa.1 | exact sDa.1 | (apply And.left; assumption)); rintro e va1 ⟨rfl, Tq⟩; have sqa1 : (Three w va1 w.heap.size p q ⟨f, g, a⟩ ⟨N + 1, g, a⟩ ⟨f, N + 1, a⟩ ∧ va1.cell? ⟨w.heap.size, 0, none⟩ = some (.int .i64 (f)) ∧ va1.cell? ⟨w.heap.size, 1, none⟩ = some (.int .i64 (g)) ∧ va1.cell? ⟨w.heap.size, 2, none⟩ = some (.int .i64 (a)) ∧ va1.cell? ⟨p, 0, none⟩ = some (.int .i64 (N + 1)) ∧ va1.cell? ⟨p, 1, none⟩ = some (.int .i64 (g)) ∧ va1.cell? ⟨p, 2, none⟩ = some (.int .i64 (a)) ∧ va1.cell? ⟨q, 0, none⟩ = some (.int .i64 (f)) ∧ va1.cell? ⟨q, 1, none⟩ = some (.int .i64 (N + 1)) ∧ va1.cell? ⟨q, 2, none⟩ = some (.int .i64 (a))) := sOf Tq; clear Tq))
        (try go_wp2_with fail)
        refine hK.out _ _ ?_ (fun hHeld => ?_)
        · ((try dsimp only); (with_reducible (first | exact sXa | exact sDa | assumption | exact sAl (by assumption) | exact sDr (sAl sXa) | exact sDr (by assumption))))
        clear hK K
        (try simp only [Act.put, List.setIfInBounds_toArray, List.set_cons_zero, List.set_cons_succ, List.getElem_toArray, List.getElem_cons_succ, List.getElem_cons_zero])
        refine wpAnyH_take (i := 17) (v := ?_) rfl (by kernel_rfl) (by kernel_rfl) (by kernel_rfl) (fun _ _ _ h => h) (Or.inl ⟨by rfl, ?_⟩) (by assumption) ?_
        rotate_left
        · ((intro w hSw); (try dsimp only at hSw); (try simp only [List.getElem_toArray, List.getElem_cons_succ, List.getElem_cons_zero]); (go_simp); (try with_reducible rfl))
        (try simp only [Act.put, List.setIfInBounds_toArray, List.set_cons_zero, List.set_cons_succ, List.getElem_toArray, List.getElem_cons_succ, List.getElem_cons_zero])
        refine wpAnyH_take (i := 18) (v := ?_) rfl (by kernel_rfl) (by kernel_rfl) (by kernel_rfl) (fun _ _ _ h => h) (Or.inl ⟨by rfl, ?_⟩) (by assumption) ?_
        rotate_left
        · ((intro w hSw); (try dsimp only at hSw); (try simp only [List.getElem_toArray, List.getElem_cons_succ, List.getElem_cons_zero]); (go_simp); (try with_reducible rfl))
        (try simp only [Act.put, List.setIfInBounds_toArray, List.set_cons_zero, List.set_cons_succ, List.getElem_toArray, List.getElem_cons_succ, List.getElem_cons_zero])
        refine wpAnyH_take (i := 19) (v := ?_) rfl (by kernel_rfl) (by kernel_rfl) (by kernel_rfl) (fun _ _ _ h => h) (Or.inl ⟨by rfl, ?_⟩) (by assumption) ?_
        rotate_left
        · ((intro w hSw); (try dsimp only at hSw); (try simp only [List.getElem_toArray, List.getElem_cons_succ, List.getElem_cons_zero]); (go_simp); (try with_reducible rfl))
        (try simp only [Act.put, List.setIfInBounds_toArray, List.set_cons_zero, List.set_cons_succ, List.getElem_toArray, List.getElem_cons_succ, List.getElem_cons_zero])
        refine wpAnyH_take (i := 20) (v := ?_) rfl (by kernel_rfl) (by kernel_rfl) (by kernel_rfl) (fun _ _ _ h => h) (Or.inl ⟨by rfl, ?_⟩) (by assumption) ?_
        rotate_left
        · ((intro w hSw); (try dsimp only at hSw); (try simp only [List.getElem_toArray, List.getElem_cons_succ, List.getElem_cons_zero]); (go_simp); (try with_reducible rfl))
        (try simp only [Act.put, List.setIfInBounds_toArray, List.set_cons_zero, List.set_cons_succ, List.getElem_toArray, List.getElem_cons_succ, List.getElem_cons_zero])
        refine wpAnyH_take (i := 21) (v := ?_) rfl (by kernel_rfl) (by kernel_rfl) (by kernel_rfl) (fun _ _ _ h => h) (Or.inl ⟨by rfl, ?_⟩) (by assumption) ?_
        rotate_left
        · ((intro w hSw); (try dsimp only at hSw); (try simp only [List.getElem_toArray, List.getElem_cons_succ, List.getElem_cons_zero]); (go_simp); (try with_reducible rfl))
        (try simp only [Act.put, List.setIfInBounds_toArray, List.set_cons_zero, List.set_cons_succ, List.getElem_toArray, List.getElem_cons_succ, List.getElem_cons_zero])
        refine wpAnyH_take (i := 22) (v := ?_) rfl (by kernel_rfl) (by kernel_rfl) (by kernel_rfl) (fun _ _ _ h => h) (Or.inl ⟨by rfl, ?_⟩) (by assumption) ?_
        rotate_left
        · ((intro w hSw); (try dsimp only at hSw); (try simp only [List.getElem_toArray, List.getElem_cons_succ, List.getElem_cons_zero]); (go_simp); (try with_reducible rfl))
        (try simp only [Act.put, List.setIfInBounds_toArray, List.set_cons_zero, List.set_cons_succ, List.getElem_toArray, List.getElem_cons_succ, List.getElem_cons_zero])
        refine wpAnyH_take (i := 23) (v := ?_) rfl (by kernel_rfl) (by kernel_rfl) (by kernel_rfl) (fun _ _ _ h => h) (Or.inl ⟨by rfl, ?_⟩) (by assumption) ?_
        rotate_left
        · ((intro w hSw); (try dsimp only at hSw); (try simp only [List.getElem_toArray, List.getElem_cons_succ, List.getElem_cons_zero]); (go_simp); (try with_reducible rfl))
        (try simp only [Act.put, List.setIfInBounds_toArray, List.set_cons_zero, List.set_cons_succ, List.getElem_toArray, List.getElem_cons_succ, List.getElem_cons_zero])
        refine wpAnyH_take (i := 24) (v := undef) rfl (by kernel_rfl) (by kernel_rfl) (by kernel_rfl) (fun _ _ _ h => h) (Or.inr ⟨by rfl, rfl⟩) (by assumption) ?_
        (try simp only [Act.put, List.setIfInBounds_toArray, List.set_cons_zero, List.set_cons_succ, List.getElem_toArray, List.getElem_cons_succ, List.getElem_cons_zero])
        refine wpAnyH_take (i := 25) (v := undef) rfl (by kernel_rfl) (by kernel_rfl) (by kernel_rfl) (fun _ _ _ h => h) (Or.inr ⟨by rfl, rfl⟩) (by assumption) ?_
        (try simp only [Act.put, List.setIfInBounds_toArray, List.set_cons_zero, List.set_cons_succ, List.getElem_toArray, List.getElem_cons_succ, List.getElem_cons_zero])
        refine wpAnyH_take (i := 26) (v := ?_) rfl (by kernel_rfl) (by kernel_rfl) (by kernel_rfl) (fun _ _ _ h => h) (Or.inl ⟨by rfl, ?_⟩) (by assumption) ?_
        rotate_left
        · ((intro w hSw); (try dsimp only at hSw); (try simp only [List.getElem_toArray, List.getElem_cons_succ, List.getElem_cons_zero]); (go_simp); (try with_reducible rfl))
        (try simp only [Act.put, List.setIfInBounds_toArray, List.set_cons_zero, List.set_cons_succ, List.getElem_toArray, List.getElem_cons_succ, List.getElem_cons_zero])
        refine wpAnyH_take (i := 27) (v := ?_) rfl (by kernel_rfl) (by kernel_rfl) (by kernel_rfl) (fun _ _ _ h => h) (Or.inl ⟨by rfl, ?_⟩) (by assumption) ?_
        rotate_left
        · ((intro w hSw); (try dsimp only at hSw); (try simp only [List.getElem_toArray, List.getElem_cons_succ, List.getElem_cons_zero]); (go_simp); (try with_reducible rfl))
        (try simp only [Act.put, List.setIfInBounds_toArray, List.set_cons_zero, List.set_cons_succ, List.getElem_toArray, List.getElem_cons_succ, List.getElem_cons_zero])
        refine wpAnyH_take (i := 28) (v := undef) rfl (by kernel_rfl) (by kernel_rfl) (by kernel_rfl) (fun _ _ _ h => h) (Or.inr ⟨by rfl, rfl⟩) (by assumption) ?_
        (try simp only [Act.put, List.setIfInBounds_toArray, List.set_cons_zero, List.set_cons_succ, List.getElem_toArray, List.getElem_cons_succ, List.getElem_cons_zero])
        refine wpAnyH_take (i := 29) (v := undef) rfl (by kernel_rfl) (by kernel_rfl) (by kernel_rfl) (fun _ _ _ h => h) (Or.inr ⟨by rfl, rfl⟩) (by assumption) ?_
        (try simp only [Act.put, List.setIfInBounds_toArray, List.set_cons_zero, List.set_cons_succ, List.getElem_toArray, List.getElem_cons_succ, List.getElem_cons_zero])
        refine wpAnyH_take (i := 30) (v := undef) rfl (by kernel_rfl) (by kernel_rfl) (by kernel_rfl) (fun _ _ _ h => h) (Or.inr ⟨by rfl, rfl⟩) (by assumption) ?_
        (try simp only [Act.put, List.setIfInBounds_toArray, List.set_cons_zero, List.set_cons_succ, List.getElem_toArray, List.getElem_cons_succ, List.getElem_cons_zero])
        refine wpAnyH_take (i := 31) (v := undef) rfl (by kernel_rfl) (by kernel_rfl) (by kernel_rfl) (fun _ _ _ h => h) (Or.inr ⟨by rfl, rfl⟩) (by assumption) ?_
        (try simp only [Act.put, List.setIfInBounds_toArray, List.set_cons_zero, List.set_cons_succ, List.getElem_toArray, List.getElem_cons_succ, List.getElem_cons_zero])
        refine wpAnyH_take (i := 32) (v := undef) rfl (by kernel_rfl) (by kernel_rfl) (by kernel_rfl) (fun _ _ _ h => h) (Or.inr ⟨by rfl, rfl⟩) (by assumption) ?_
        (try simp only [Act.put, List.setIfInBounds_toArray, List.set_cons_zero, List.set_cons_succ, List.getElem_toArray, List.getElem_cons_succ, List.getElem_cons_zero])
        refine wpAnyH_take (i := 33) (v := undef) rfl (by kernel_rfl) (by kernel_rfl) (by kernel_rfl) (fun _ _ _ h => h) (Or.inr ⟨by rfl, rfl⟩) (by assumption) ?_
        (try simp only [Act.put, List.setIfInBounds_toArray, List.set_cons_zero, List.set_cons_succ, List.getElem_toArray, List.getElem_cons_succ, List.getElem_cons_zero])
        refine wpAnyH_take (i := 34) (v := undef) rfl (by kernel_rfl) (by kernel_rfl) (by kernel_rfl) (fun _ _ _ h => h) (Or.inr ⟨by rfl, rfl⟩) (by assumption) ?_
        (try simp only [Act.put, List.setIfInBounds_toArray, List.set_cons_zero, List.set_cons_succ, List.getElem_toArray, List.getElem_cons_succ, List.getElem_cons_zero])
        refine wpAnyH_take (i := 35) (v := undef) rfl (by kernel_rfl) (by kernel_rfl) (by kernel_rfl) (fun _ _ _ h => h) (Or.inr ⟨by rfl, rfl⟩) (by assumption) ?_
        (try simp only [Act.put, List.setIfInBounds_toArray, List.set_cons_zero, List.set_cons_succ, List.getElem_toArray, List.getElem_cons_succ, List.getElem_cons_zero])
        refine wpAnyH_take (i := 36) (v := undef) rfl (by kernel_rfl) (by kernel_rfl) (by kernel_rfl) (fun _ _ _ h => h) (Or.inr ⟨by rfl, rfl⟩) (by assumption) ?_
        (try simp only [Act.put, List.setIfInBounds_toArray, List.set_cons_zero, List.set_cons_succ, List.getElem_toArray, List.getElem_cons_succ, List.getElem_cons_zero])
        refine wpAnyH_take (i := 37) (v := undef) rfl (by kernel_rfl) (by kernel_rfl) (by kernel_rfl) (fun _ _ _ h => h) (Or.inr ⟨by rfl, rfl⟩) (by assumption) ?_
        (try simp only [Act.put, List.setIfInBounds_toArray, List.set_cons_zero, List.set_cons_succ, List.getElem_toArray, List.getElem_cons_succ, List.getElem_cons_zero])
        refine wpAnyH_take (i := 38) (v := undef) rfl (by kernel_rfl) (by kernel_rfl) (by kernel_rfl) (fun _ _ _ h => h) (Or.inr ⟨by rfl, rfl⟩) (by assumption) ?_
        (try simp only [Act.put, List.setIfInBounds_toArray, List.set_cons_zero, List.set_cons_succ, List.getElem_toArray, List.getElem_cons_succ, List.getElem_cons_zero])
        refine wpAnyH_take (i := 39) (v := undef) rfl (by kernel_rfl) (by kernel_rfl) (by kernel_rfl) (fun _ _ _ h => h) (Or.inr ⟨by rfl, rfl⟩) (by assumption) ?_
        (try simp only [Act.put, List.setIfInBounds_toArray, List.set_cons_zero, List.set_cons_succ, List.getElem_toArray, List.getElem_cons_succ, List.getElem_cons_zero])
        refine wpAnyH_take (i := 40) (v := undef) rfl (by kernel_rfl) (by kernel_rfl) (by kernel_rfl) (fun _ _ _ h => h) (Or.inr ⟨by rfl, rfl⟩) (by assumption) ?_
        (try simp only [Act.put, List.setIfInBounds_toArray, List.set_cons_zero, List.set_cons_succ, List.getElem_toArray, List.getElem_cons_succ, List.getElem_cons_zero])
        refine wpAnyH_take (i := 41) (v := undef) rfl (by kernel_rfl) (by kernel_rfl) (by kernel_rfl) (fun _ _ _ h => h) (Or.inr ⟨by rfl, rfl⟩) (by assumption) ?_
        (try simp only [Act.put, List.setIfInBounds_toArray, List.set_cons_zero, List.set_cons_succ, List.getElem_toArray, List.getElem_cons_succ, List.getElem_cons_zero])
        refine wpAnyH_take (i := 42) (v := undef) rfl (by kernel_rfl) (by kernel_rfl) (by kernel_rfl) (fun _ _ _ h => h) (Or.inr ⟨by rfl, rfl⟩) (by assumption) ?_
        (try simp only [Act.put, List.setIfInBounds_toArray, List.set_cons_zero, List.set_cons_succ, List.getElem_toArray, List.getElem_cons_succ, List.getElem_cons_zero])
        refine wpAnyH_take (i := 43) (v := undef) rfl (by kernel_rfl) (by kernel_rfl) (by kernel_rfl) (fun _ _ _ h => h) (Or.inr ⟨by rfl, rfl⟩) (by assumption) ?_
        (try simp only [Act.put, List.setIfInBounds_toArray, List.set_cons_zero, List.set_cons_succ, List.getElem_toArray, List.getElem_cons_succ, List.getElem_cons_zero])
        refine wpAnyH_take (i := 44) (v := ?_) rfl (by kernel_rfl) (by kernel_rfl) (by kernel_rfl) (fun _ _ _ h => h) (Or.inl ⟨by rfl, ?_⟩) (by assumption) ?_
        rotate_left
        · ((intro w hSw); (try dsimp only at hSw); (try simp only [List.getElem_toArray, List.getElem_cons_succ, List.getElem_cons_zero]); (go_simp); (try with_reducible rfl))
        (try simp only [Act.put, List.setIfInBounds_toArray, List.set_cons_zero, List.set_cons_succ, List.getElem_toArray, List.getElem_cons_succ, List.getElem_cons_zero])
        refine wpAnyH_take (i := 45) (v := ?_) rfl (by kernel_rfl) (by kernel_rfl) (by kernel_rfl) (fun _ _ _ h => h) (Or.inl ⟨by rfl, ?_⟩) (by assumption) ?_
        rotate_left
        · ((intro w hSw); (try dsimp only at hSw); (try simp only [List.getElem_toArray, List.getElem_cons_succ, List.getElem_cons_zero]); (go_simp); (try with_reducible rfl))
        (try simp only [Act.put, List.setIfInBounds_toArray, List.set_cons_zero, List.set_cons_succ, List.getElem_toArray, List.getElem_cons_succ, List.getElem_cons_zero])
        refine wpAnyH_done (by kernel_rfl) ?_ _
        refine NoPanic.normal ?_
        go_wp2_with fail
        go_meet
        exact ⟨rfl, sqa1.1⟩
      · have T0b := HTW.out
        have Cb0 : Hid (∀ (Y : World) (n : Nat), Y.heap.size = n → Three w Y w.heap.size p q ⟨f, g, a⟩ ⟨N + 1, g, a⟩ ⟨f, N + 1, a⟩ → Calls Tryd.prog 9 #[.agg #[.int .i64 f, .int .i64 g, .int .i64 a], .slice (some ⟨n, 0, none⟩) 1 1] (Y.alloc (.cells #[.int .i64 (82 + N)] 3)) fun e w' => e = .returned (stV ⟨N + 1, g, a⟩) ∧ Three w w' w.heap.size p q ⟨f, g, a⟩ ⟨N + 1, g, a⟩ ⟨f, N + 1, a⟩) := Lib.hid (fun Y n hn h3 => apply_three (f := f) (g := g) (a := a) (R := ⟨N + 1, g, a⟩) [82 + N] w HT.out (by simp) (by intro z hz; simp at hz; unfold I64; omega) (mk_fg16 HR.out N ⟨by omega, by omega⟩) Y n hn h3)
        have Db0 : Hid (∀ (Y : World) (n : Nat), Y.heap.size = n → Three w Y.drew w.heap.size p q ⟨f, g, a⟩ ⟨N + 1, g, a⟩ ⟨f, N + 1, a⟩ → Calls Tryd.prog 9 #[.agg #[.int .i64 f, .int .i64 g, .int .i64 a], .slice (some ⟨n, 0, none⟩) 1 1] (Y.alloc (.cells #[.int .i64 (82 + N)] 3)).drew fun e w' => e = .returned (stV ⟨N + 1, g, a⟩) ∧ Three w w' w.heap.size p q ⟨f, g, a⟩ ⟨N + 1, g, a⟩ ⟨f, N + 1, a⟩) := Lib.hid (fun Y n hn h3 => apply_three_d (f := f) (g := g) (a := a) (R := ⟨N + 1, g, a⟩) [82 + N] w HT.out (by simp) (by intro z hz; simp at hz; unfold I64; omega) (mk_fg16 HR.out N ⟨by omega, by omega⟩) Y n hn h3)
        have eb0 := eq3_self (N + 1) (g) (a)
        have Cb1 : Hid (∀ (Y : World) (n : Nat), Y.heap.size = n → Three w Y w.heap.size p q ⟨f, g, a⟩ ⟨N + 1, g, a⟩ ⟨f, N + 1, a⟩ → Calls Tryd.prog 9 #[.agg #[.int .i64 f, .int .i64 g, .int .i64 a], .slice (some ⟨n, 0, none⟩) 1 1] (Y.alloc (.cells #[.int .i64 (92 + N)] 3)) fun e w' => e = .returned (stV ⟨f, N + 1, a⟩) ∧ Three w w' w.heap.size p q ⟨f, g, a⟩ ⟨N + 1, g, a⟩ ⟨f, N + 1, a⟩) := Lib.hid (fun Y n hn h3 => apply_three (f := f) (g := g) (a := a) (R := ⟨f, N + 1, a⟩) [92 + N] w HT.out (by simp) (by intro z hz; simp at hz; unfold I64; omega) (mk_bg16 HR.out N ⟨by omega, by omega⟩) Y n hn h3)
        have Db1 : Hid (∀ (Y : World) (n : Nat), Y.heap.size = n → Three w Y.drew w.heap.size p q ⟨f, g, a⟩ ⟨N + 1, g, a⟩ ⟨f, N + 1, a⟩ → Calls Tryd.prog 9 #[.agg #[.int .i64 f, .int .i64 g, .int .i64 a], .slice (some ⟨n, 0, none⟩) 1 1] (Y.alloc (.cells #[.int .i64 (92 + N)] 3)).drew fun e w' => e = .returned (stV ⟨f, N + 1, a⟩) ∧ Three w w' w.heap.size p q ⟨f, g, a⟩ ⟨N + 1, g, a⟩ ⟨f, N + 1, a⟩) := Lib.hid (fun Y n hn h3 => apply_three_d (f := f) (g := g) (a := a) (R := ⟨f, N + 1, a⟩) [92 + N] w HT.out (by simp) (by intro z hz; simp at hz; unfold I64; omega) (mk_bg16 HR.out N ⟨by omega, by omega⟩) Y n hn h3)
        have eb1 := eq3_self (f) (N + 1) (a)
        have sXb : (Three w w1y w.heap.size p q ⟨f, g, a⟩ ⟨N + 1, g, a⟩ ⟨f, N + 1, a⟩ ∧ w1y.cell? ⟨w.heap.size, 0, none⟩ = some (.int .i64 (f)) ∧ w1y.cell? ⟨w.heap.size, 1, none⟩ = some (.int .i64 (g)) ∧ w1y.cell? ⟨w.heap.size, 2, none⟩ = some (.int .i64 (a)) ∧ w1y.cell? ⟨p, 0, none⟩ = some (.int .i64 (N + 1)) ∧ w1y.cell? ⟨p, 1, none⟩ = some (.int .i64 (g)) ∧ w1y.cell? ⟨p, 2, none⟩ = some (.int .i64 (a)) ∧ w1y.cell? ⟨q, 0, none⟩ = some (.int .i64 (f)) ∧ w1y.cell? ⟨q, 1, none⟩ = some (.int .i64 (N + 1)) ∧ w1y.cell? ⟨q, 2, none⟩ = some (.int .i64 (a))) := sOf T0b
        have sDb : (Three w w1y.drew w.heap.size p q ⟨f, g, a⟩ ⟨N + 1, g, a⟩ ⟨f, N + 1, a⟩ ∧ w1y.drew.cell? ⟨w.heap.size, 0, none⟩ = some (.int .i64 (f)) ∧ w1y.drew.cell? ⟨w.heap.size, 1, none⟩ = some (.int .i64 (g)) ∧ w1y.drew.cell? ⟨w.heap.size, 2, none⟩ = some (.int .i64 (a)) ∧ w1y.drew.cell? ⟨p, 0, none⟩ = some (.int .i64 (N + 1)) ∧ w1y.drew.cell? ⟨p, 1, none⟩ = some (.int .i64 (g)) ∧ w1y.drew.cell? ⟨p, 2, none⟩ = some (.int .i64 (a)) ∧ w1y.drew.cell? ⟨q, 0, none⟩ = some (.int .i64 (f)) ∧ w1y.drew.cell? ⟨q, 1, none⟩ = some (.int .i64 (N + 1)) ∧ w1y.drew.cell? ⟨q, 2, none⟩ = some (.int .i64 (a))) := sOf T0b.drew
        obtain ⟨_, c0b, c1b, c2b, c3b, c4b, c5b, c6b, c7b, c8b⟩ := id sXb
        have c9b := T0b.st0.cells.lt; have cab := T0b.st1.cells.lt; have cbb := T0b.st2.cells.lt
        replace T0b := Lib.hid T0b
        have hwb0 : IntKind.i64.wrap (82 + N) = 82 + N := by rw [IntKind.wrap_i64]; omega
        have hwb1 : IntKind.i64.wrap (92 + N) = 92 + N := by rw [IntKind.wrap_i64]; omega
        have hg8 : decide (N < (8 : Int)) = false := decide_eq_false (by omega)
        refine wp_region_noPanic ?_
        refine wp_region_held_drew (S := (fun X => (Three w X w.heap.size p q ⟨f, g, a⟩ ⟨N + 1, g, a⟩ ⟨f, N + 1, a⟩ ∧ X.cell? ⟨w.heap.size, 0, none⟩ = some (.int .i64 (f)) ∧ X.cell? ⟨w.heap.size, 1, none⟩ = some (.int .i64 (g)) ∧ X.cell? ⟨w.heap.size, 2, none⟩ = some (.int .i64 (a)) ∧ X.cell? ⟨p, 0, none⟩ = some (.int .i64 (N + 1)) ∧ X.cell? ⟨p, 1, none⟩ = some (.int .i64 (g)) ∧ X.cell? ⟨p, 2, none⟩ = some (.int .i64 (a)) ∧ X.cell? ⟨q, 0, none⟩ = some (.int .i64 (f)) ∧ X.cell? ⟨q, 1, none⟩ = some (.int .i64 (N + 1)) ∧ X.cell? ⟨q, 2, none⟩ = some (.int .i64 (a))))) (by kernel_rfl) ?_ (fun hHeld => ?_)
        · ((try dsimp only); (with_reducible (first | exact sXb | exact sDb | assumption | exact sAl (by assumption) | exact sDr (sAl sXb) | exact sDr (by assumption))))
        refine wpAnyH_take (i := 0) (v := ?_) rfl (by kernel_rfl) (by kernel_rfl) (by kernel_rfl) (fun _ _ _ h => h) (Or.inl ⟨by rfl, ?_⟩) (by assumption) ?_
        rotate_left
        · ((intro w hSw); (try dsimp only at hSw); (try simp only [List.getElem_toArray, List.getElem_cons_zero]); (go_simp); (try with_reducible rfl))
        (try simp only [Act.put, List.setIfInBounds_toArray, List.set_cons_zero, List.set_cons_succ, List.getElem_toArray, List.getElem_cons_zero])
        refine wpAnyH_take (i := 1) (v := ?_) rfl (by kernel_rfl) (by kernel_rfl) (by kernel_rfl) (fun _ _ _ h => h) (Or.inl ⟨by rfl, ?_⟩) (by assumption) ?_
        rotate_left
        · ((intro w hSw); (try dsimp only at hSw); (try simp only [List.getElem_toArray, List.getElem_cons_succ, List.getElem_cons_zero]); (go_simp); (try with_reducible rfl))
        (try simp only [Act.put, List.setIfInBounds_toArray, List.set_cons_zero, List.set_cons_succ, List.getElem_toArray, List.getElem_cons_succ, List.getElem_cons_zero])
        refine wpAnyH_take (i := 2) (v := ?_) rfl (by kernel_rfl) (by kernel_rfl) (by kernel_rfl) (fun _ _ _ h => h) (Or.inl ⟨by rfl, ?_⟩) (by assumption) ?_
        rotate_left
        · ((intro w hSw); (try dsimp only at hSw); (try simp only [List.getElem_toArray, List.getElem_cons_succ, List.getElem_cons_zero]); (go_simp); (try with_reducible rfl))
        (try simp only [Act.put, List.setIfInBounds_toArray, List.set_cons_zero, List.set_cons_succ, List.getElem_toArray, List.getElem_cons_succ, List.getElem_cons_zero])
        refine wpAnyH_take (i := 3) (v := undef) rfl (by kernel_rfl) (by kernel_rfl) (by kernel_rfl) (fun _ _ _ h => h) (Or.inr ⟨by rfl, rfl⟩) (by assumption) ?_
        (try simp only [Act.put, List.setIfInBounds_toArray, List.set_cons_zero, List.set_cons_succ, List.getElem_toArray, List.getElem_cons_succ, List.getElem_cons_zero])
        refine wpAnyH_take (i := 4) (v := undef) rfl (by kernel_rfl) (by kernel_rfl) (by kernel_rfl) (fun _ _ _ h => h) (Or.inr ⟨by rfl, rfl⟩) (by assumption) ?_
        (try simp only [Act.put, List.setIfInBounds_toArray, List.set_cons_zero, List.set_cons_succ, List.getElem_toArray, List.getElem_cons_succ, List.getElem_cons_zero])
        refine wpAnyH_take (i := 5) (v := undef) rfl (by kernel_rfl) (by kernel_rfl) (by kernel_rfl) (fun _ _ _ h => h) (Or.inr ⟨by rfl, rfl⟩) (by assumption) ?_
        (try simp only [Act.put, List.setIfInBounds_toArray, List.set_cons_zero, List.set_cons_succ, List.getElem_toArray, List.getElem_cons_succ, List.getElem_cons_zero])
        refine wpAnyH_take (i := 6) (v := undef) rfl (by kernel_rfl) (by kernel_rfl) (by kernel_rfl) (fun _ _ _ h => h) (Or.inr ⟨by rfl, rfl⟩) (by assumption) ?_
        (try simp only [Act.put, List.setIfInBounds_toArray, List.set_cons_zero, List.set_cons_succ, List.getElem_toArray, List.getElem_cons_succ, List.getElem_cons_zero])
        refine wpAnyH_take (i := 7) (v := undef) rfl (by kernel_rfl) (by kernel_rfl) (by kernel_rfl) (fun _ _ _ h => h) (Or.inr ⟨by rfl, rfl⟩) (by assumption) ?_
        (try simp only [Act.put, List.setIfInBounds_toArray, List.set_cons_zero, List.set_cons_succ, List.getElem_toArray, List.getElem_cons_succ, List.getElem_cons_zero])
        refine wpAnyH_take (i := 8) (v := undef) rfl (by kernel_rfl) (by kernel_rfl) (by kernel_rfl) (fun _ _ _ h => h) (Or.inr ⟨by rfl, rfl⟩) (by assumption) ?_
        (try simp only [Act.put, List.setIfInBounds_toArray, List.set_cons_zero, List.set_cons_succ, List.getElem_toArray, List.getElem_cons_succ, List.getElem_cons_zero])
        refine wpAnyH_take (i := 9) (v := undef) rfl (by kernel_rfl) (by kernel_rfl) (by kernel_rfl) (fun _ _ _ h => h) (Or.inr ⟨by rfl, rfl⟩) (by assumption) ?_
        (try simp only [Act.put, List.setIfInBounds_toArray, List.set_cons_zero, List.set_cons_succ, List.getElem_toArray, List.getElem_cons_succ, List.getElem_cons_zero])
        refine wpAnyH_take (i := 10) (v := undef) rfl (by kernel_rfl) (by kernel_rfl) (by kernel_rfl) (fun _ _ _ h => h) (Or.inr ⟨by rfl, rfl⟩) (by assumption) ?_
        (try simp only [Act.put, List.setIfInBounds_toArray, List.set_cons_zero, List.set_cons_succ, List.getElem_toArray, List.getElem_cons_succ, List.getElem_cons_zero])
        refine wpAnyH_take (i := 11) (v := undef) rfl (by kernel_rfl) (by kernel_rfl) (by kernel_rfl) (fun _ _ _ h => h) (Or.inr ⟨by rfl, rfl⟩) (by assumption) ?_
        (try simp only [Act.put, List.setIfInBounds_toArray, List.set_cons_zero, List.set_cons_succ, List.getElem_toArray, List.getElem_cons_succ, List.getElem_cons_zero])
        refine wpAnyH_take (i := 12) (v := undef) rfl (by kernel_rfl) (by kernel_rfl) (by kernel_rfl) (fun _ _ _ h => h) (Or.inr ⟨by rfl, rfl⟩) (by assumption) ?_
        (try simp only [Act.put, List.setIfInBounds_toArray, List.set_cons_zero, List.set_cons_succ, List.getElem_toArray, List.getElem_cons_succ, List.getElem_cons_zero])
        refine wpAnyH_take (i := 13) (v := undef) rfl (by kernel_rfl) (by kernel_rfl) (by kernel_rfl) (fun _ _ _ h => h) (Or.inr ⟨by rfl, rfl⟩) (by assumption) ?_
        (try simp only [Act.put, List.setIfInBounds_toArray, List.set_cons_zero, List.set_cons_succ, List.getElem_toArray, List.getElem_cons_succ, List.getElem_cons_zero])
        refine wpAnyH_take (i := 14) (v := undef) rfl (by kernel_rfl) (by kernel_rfl) (by kernel_rfl) (fun _ _ _ h => h) (Or.inr ⟨by rfl, rfl⟩) (by assumption) ?_
        (try simp only [Act.put, List.setIfInBounds_toArray, List.set_cons_zero, List.set_cons_succ, List.getElem_toArray, List.getElem_cons_succ, List.getElem_cons_zero])
        refine wpAnyH_take (i := 15) (v := undef) rfl (by kernel_rfl) (by kernel_rfl) (by kernel_rfl) (fun _ _ _ h => h) (Or.inr ⟨by rfl, rfl⟩) (by assumption) ?_
        (try simp only [Act.put, List.setIfInBounds_toArray, List.set_cons_zero, List.set_cons_succ, List.getElem_toArray, List.getElem_cons_succ, List.getElem_cons_zero])
        refine wpAnyH_take (i := 16) (v := undef) rfl (by kernel_rfl) (by kernel_rfl) (by kernel_rfl) (fun _ _ _ h => h) (Or.inr ⟨by rfl, rfl⟩) (by assumption) ?_
        (try simp only [Act.put, List.setIfInBounds_toArray, List.set_cons_zero, List.set_cons_succ, List.getElem_toArray, List.getElem_cons_succ, List.getElem_cons_zero])
        refine wpAnyH_take (i := 17) (v := undef) rfl (by kernel_rfl) (by kernel_rfl) (by kernel_rfl) (fun _ _ _ h => h) (Or.inr ⟨by rfl, rfl⟩) (by assumption) ?_
        (try simp only [Act.put, List.setIfInBounds_toArray, List.set_cons_zero, List.set_cons_succ, List.getElem_toArray, List.getElem_cons_succ, List.getElem_cons_zero])
        refine wpAnyH_take (i := 18) (v := undef) rfl (by kernel_rfl) (by kernel_rfl) (by kernel_rfl) (fun _ _ _ h => h) (Or.inr ⟨by rfl, rfl⟩) (by assumption) ?_
        (try simp only [Act.put, List.setIfInBounds_toArray, List.set_cons_zero, List.set_cons_succ, List.getElem_toArray, List.getElem_cons_succ, List.getElem_cons_zero])
        refine wpAnyH_take (i := 19) (v := ?_) rfl (by kernel_rfl) (by kernel_rfl) (by kernel_rfl) (fun _ _ _ h => h) (Or.inl ⟨by rfl, ?_⟩) (by assumption) ?_
        rotate_left
        · ((intro w hSw); (try dsimp only at hSw); (try simp only [List.getElem_toArray, List.getElem_cons_succ, List.getElem_cons_zero]); (go_simp); (try with_reducible rfl))
        (try simp only [Act.put, List.setIfInBounds_toArray, List.set_cons_zero, List.set_cons_succ, List.getElem_toArray, List.getElem_cons_succ, List.getElem_cons_zero])
        refine wpAnyH_take (i := 20) (v := ?_) rfl (by kernel_rfl) (by kernel_rfl) (by kernel_rfl) (fun _ _ _ h => h) (Or.inl ⟨by rfl, ?_⟩) (by assumption) ?_
        rotate_left
        · ((intro w hSw); (try dsimp only at hSw); (try simp only [List.getElem_toArray, List.getElem_cons_succ, List.getElem_cons_zero]); (go_simp); (try with_reducible rfl))
        (try simp only [Act.put, List.setIfInBounds_toArray, List.set_cons_zero, List.set_cons_succ, List.getElem_toArray, List.getElem_cons_succ, List.getElem_cons_zero])
        refine wpAnyH_take (i := 21) (v := ?_) rfl (by kernel_rfl) (by kernel_rfl) (by kernel_rfl) (fun _ _ _ h => h) (Or.inl ⟨by rfl, ?_⟩) (by assumption) ?_
        rotate_left
        · ((intro w hSw); (try dsimp only at hSw); (try simp only [List.getElem_toArray, List.getElem_cons_succ, List.getElem_cons_zero]); (go_simp); (try with_reducible rfl))
        (try simp only [Act.put, List.setIfInBounds_toArray, List.set_cons_zero, List.set_cons_succ, List.getElem_toArray, List.getElem_cons_succ, List.getElem_cons_zero])
        refine wpAnyH_take (i := 22) (v := ?_) rfl (by kernel_rfl) (by kernel_rfl) (by kernel_rfl) (fun _ _ _ h => h) (Or.inl ⟨by rfl, ?_⟩) (by assumption) ?_
        rotate_left
        · ((intro w hSw); (try dsimp only at hSw); (try simp only [List.getElem_toArray, List.getElem_cons_succ, List.getElem_cons_zero]); (go_simp); (try with_reducible rfl))
        (try simp only [Act.put, List.setIfInBounds_toArray, List.set_cons_zero, List.set_cons_succ, List.getElem_toArray, List.getElem_cons_succ, List.getElem_cons_zero])
        refine wpAnyH_take (i := 23) (v := ?_) rfl (by kernel_rfl) (by kernel_rfl) (by kernel_rfl) (fun _ _ _ h => h) (Or.inl ⟨by rfl, ?_⟩) (by assumption) ?_
        rotate_left
        · ((intro w hSw); (try dsimp only at hSw); (try simp only [List.getElem_toArray, List.getElem_cons_succ, List.getElem_cons_zero]); (go_simp); (try with_reducible rfl))
        (try simp only [Act.put, List.setIfInBounds_toArray, List.set_cons_zero, List.set_cons_succ, List.getElem_toArray, List.getElem_cons_succ, List.getElem_cons_zero])
        refine wpAnyH_take (i := 24) (v := ?_) rfl (by kernel_rfl) (by kernel_rfl) (by kernel_rfl) (fun _ _ _ h => h) (Or.inl ⟨by rfl, ?_⟩) (by assumption) ?_
        rotate_left
        · ((intro w hSw); (try dsimp only at hSw); (try simp only [List.getElem_toArray, List.getElem_cons_succ, List.getElem_cons_zero]); (go_simp); (try with_reducible rfl))
        (try simp only [Act.put, List.setIfInBounds_toArray, List.set_cons_zero, List.set_cons_succ, List.getElem_toArray, List.getElem_cons_succ, List.getElem_cons_zero])
        refine wpAnyH_take (i := 25) (v := ?_) rfl (by kernel_rfl) (by kernel_rfl) (by kernel_rfl) (fun _ _ _ h => h) (Or.inl ⟨by rfl, ?_⟩) (by assumption) ?_
        rotate_left
        · ((intro w hSw); (try dsimp only at hSw); (try simp only [List.getElem_toArray, List.getElem_cons_succ, List.getElem_cons_zero]); (go_simp); (try with_reducible rfl))
        (try simp only [Act.put, List.setIfInBounds_toArray, List.set_cons_zero, List.set_cons_succ, List.getElem_toArray, List.getElem_cons_succ, List.getElem_cons_zero])
        refine wpAnyH_take (i := 26) (v := ?_) rfl (by kernel_rfl) (by kernel_rfl) (by kernel_rfl) (fun _ _ _ h => h) (Or.inl ⟨by rfl, ?_⟩) (by assumption) ?_
        rotate_left
        · ((intro w hSw); (try dsimp only at hSw); (try simp only [List.getElem_toArray, List.getElem_cons_succ, List.getElem_cons_zero]); (go_simp); (try with_reducible rfl))
        (try simp only [Act.put, List.setIfInBounds_toArray, List.set_cons_zero, List.set_cons_succ, List.getElem_toArray, List.getElem_cons_succ, List.getElem_cons_zero])
        refine wpAnyH_take (i := 27) (v := ?_) rfl (by kernel_rfl) (by kernel_rfl) (by kernel_rfl) (fun _ _ _ h => h) (Or.inl ⟨by rfl, ?_⟩) (by assumption) ?_
        rotate_left
        · ((intro w hSw); (try dsimp only at hSw); (try simp only [List.getElem_toArray, List.getElem_cons_succ, List.getElem_cons_zero]); (go_simp); (try with_reducible rfl))
        (try simp only [Act.put, List.setIfInBounds_toArray, List.set_cons_zero, List.set_cons_succ, List.getElem_toArray, List.getElem_cons_succ, List.getElem_cons_zero])
        refine wpAnyH_take (i := 28) (v := ?_) rfl (by kernel_rfl) (by kernel_rfl) (by kernel_rfl) (fun _ _ _ h => h) (Or.inl ⟨by rfl, ?_⟩) (by assumption) ?_
        rotate_left
        · ((intro w hSw); (try dsimp only at hSw); (try simp only [List.getElem_toArray, List.getElem_cons_succ, List.getElem_cons_zero]); (go_simp); (try with_reducible rfl))
        (try simp only [Act.put, List.setIfInBounds_toArray, List.set_cons_zero, List.set_cons_succ, List.getElem_toArray, List.getElem_cons_succ, List.getElem_cons_zero])
        refine wpAnyH_take (i := 29) (v := ?_) rfl (by kernel_rfl) (by kernel_rfl) (by kernel_rfl) (fun _ _ _ h => h) (Or.inl ⟨by rfl, ?_⟩) (by assumption) ?_
        rotate_left
        · ((intro w hSw); (try dsimp only at hSw); (try simp only [List.getElem_toArray, List.getElem_cons_succ, List.getElem_cons_zero]); (go_simp); (try with_reducible rfl))
        (try simp only [Act.put, List.setIfInBounds_toArray, List.set_cons_zero, List.set_cons_succ, List.getElem_toArray, List.getElem_cons_succ, List.getElem_cons_zero])
        refine wpAnyH_take (i := 30) (v := ?_) rfl (by kernel_rfl) (by kernel_rfl) (by kernel_rfl) (fun _ _ _ h => h) (Or.inl ⟨by rfl, ?_⟩) (by assumption) ?_
        rotate_left
        · ((intro w hSw); (try dsimp only at hSw); (try simp only [List.getElem_toArray, List.getElem_cons_succ, List.getElem_cons_zero]); (go_simp); (try with_reducible rfl))
        (try simp only [Act.put, List.setIfInBounds_toArray, List.set_cons_zero, List.set_cons_succ, List.getElem_toArray, List.getElem_cons_succ, List.getElem_cons_zero])
        refine wpAnyH_take (i := 33) (v := ?_) rfl (by kernel_rfl) (by kernel_rfl) (by kernel_rfl) (fun _ _ _ h => h) (Or.inl ⟨by rfl, ?_⟩) (by assumption) ?_
        rotate_left
        · ((intro w hSw); (try dsimp only at hSw); (try simp only [List.getElem_toArray, List.getElem_cons_succ, List.getElem_cons_zero]); (go_simp); (try with_reducible rfl))
        (try simp only [Act.put, List.setIfInBounds_toArray, List.set_cons_zero, List.set_cons_succ, List.getElem_toArray, List.getElem_cons_succ, List.getElem_cons_zero])
        refine wpAnyH_ready (rs := [31]) (by kernel_rfl) (by simp) ?_
        refine AllReadyH.cons rfl (fun K hK => ?_) AllReadyH.nil
        (try simp only [List.getElem_toArray, List.getElem_cons_succ, List.getElem_cons_zero])
        go_simp
        refine hK.out _ _ ?_ (fun hHeld => ?_)
        · ((try dsimp only); (with_reducible (first | exact sXb | exact sDb | assumption | exact sAl (by assumption) | exact sDr (sAl sXb) | exact sDr (by assumption))))
        clear hK K
        (try simp only [Act.put, List.setIfInBounds_toArray, List.set_cons_zero, List.set_cons_succ, List.getElem_toArray, List.getElem_cons_succ, List.getElem_cons_zero])
        refine wpAnyH_ready (rs := [32]) (by kernel_rfl) (by simp) ?_
        refine AllReadyH.cons rfl (fun K hK => ?_) AllReadyH.nil
        (try simp only [List.getElem_toArray, List.getElem_cons_succ, List.getElem_cons_zero])
        go_simp
        (first | ((go_at_call 9); (with_reducible refine (Db0.out _ _ ?hnDb0 ?htDb0).mono ?_); (case hnDb0 => rfl); (case htDb0 => first | exact sXb.1 | exact sDb.1 | (apply And.left; assumption)); rintro e vb0 ⟨rfl, Tq⟩; have sqb0 : (Three w vb0 w.heap.size p q ⟨f, g, a⟩ ⟨N + 1, g, a⟩ ⟨f, N + 1, a⟩ ∧ vb0.cell? ⟨w.heap.size, 0, none⟩ = some (.int .i64 (f)) ∧ vb0.cell? ⟨w.heap.size, 1, none⟩ = some (.int .i64 (g)) ∧ vb0.cell? ⟨w.heap.size, 2, none⟩ = some (.int .i64 (a)) ∧ vb0.cell? ⟨p, 0, none⟩ = some (.int .i64 (N + 1)) ∧ vb0.cell? ⟨p, 1, none⟩ = some (.int .i64 (g)) ∧ vb0.cell? ⟨p, 2, none⟩ = some (.int .i64 (a)) ∧ vb0.cell? ⟨q, 0, none⟩ = some (.int .i64 (f)) ∧ vb0.cell? ⟨q, 1, none⟩ = some (.int .i64 (N + 1)) ∧ vb0.cell? ⟨q, 2, none⟩ = some (.int .i64 (a))) := sOf Tq; clear Tq) | ((go_at_call 9); (with_reducible refine (Cb0.out _ _ ?hnCb0 ?htCb0).mono ?_); (case hnCb0 => rfl); (case htCb0 => first | exact sXb.1 | exact sDb.1 | (apply And.left; assumption)); rintro e vb0 ⟨rfl, Tq⟩; have sqb0 : (Three w vb0 w.heap.size p q ⟨f, g, a⟩ ⟨N + 1, g, a⟩ ⟨f, N + 1, a⟩ ∧ vb0.cell? ⟨w.heap.size, 0, none⟩ = some (.int .i64 (f)) ∧ vb0.cell? ⟨w.heap.size, 1, none⟩ = some (.int .i64 (g)) ∧ vb0.cell? ⟨w.heap.size, 2, none⟩ = some (.int .i64 (a)) ∧ vb0.cell? ⟨p, 0, none⟩ = some (.int .i64 (N + 1)) ∧ vb0.cell? ⟨p, 1, none⟩ = some (.int .i64 (g)) ∧ vb0.cell? ⟨p, 2, none⟩ = some (.int .i64 (a)) ∧ vb0.cell? ⟨q, 0, none⟩ = some (.int .i64 (f)) ∧ vb0.cell? ⟨q, 1, none⟩ = some (.int .i64 (N + 1)) ∧ vb0.cell? ⟨q, 2, none⟩ = some (.int .i64 (a))) := sOf Tq; clear Tq) | ((go_at_call 9); (with_reducible refine (Db1.out _ _ ?hnDb1 ?htDb1).mono ?_); (case hnDb1 => rfl); (case htDb1 => first | exact sXb.1 | exact sDb.1 | (apply And.left; assumption)); rintro e vb1 ⟨rfl, Tq⟩; have sqb1 : (Three w vb1 w.heap.size p q ⟨f, g, a⟩ ⟨N + 1, g, a⟩ ⟨f, N + 1, a⟩ ∧ vb1.cell? ⟨w.heap.size, 0, none⟩ = some (.int .i64 (f)) ∧ vb1.cell? ⟨w.heap.size, 1, none⟩ = some (.int .i64 (g)) ∧ vb1.cell? ⟨w.heap.size, 2, none⟩ = some (.int .i64 (a)) ∧ vb1.cell? ⟨p, 0, none⟩ = some (.int .i64 (N + 1)) ∧ vb1.cell? ⟨p, 1, none⟩ = some (.int .i64 (g)) ∧ vb1.cell? ⟨p, 2, none⟩ = some (.int .i64 (a)) ∧ vb1.cell? ⟨q, 0, none⟩ = some (.int .i64 (f)) ∧ vb1.cell? ⟨q, 1, none⟩ = some (.int .i64 (N + 1)) ∧ vb1.cell? ⟨q, 2, none⟩ = some (.int .i64 (a))) := sOf Tq; clear Tq) | ((go_at_call 9); (with_reducible refine (Cb1.out _ _ ?hnCb1 ?htCb1).mono ?_); (case hnCb1 => rfl); (case htCb1 => first | exact sXb.1 | exact sDb.1 | (apply And.left; assumption)); rintro e vb1 ⟨rfl, Tq⟩; have sqb1 : (Three w vb1 w.heap.size p q ⟨f, g, a⟩ ⟨N + 1, g, a⟩ ⟨f, N + 1, a⟩ ∧ vb1.cell? ⟨w.heap.size, 0, none⟩ = some (.int .i64 (f)) ∧ vb1.cell? ⟨w.heap.size, 1, none⟩ = some (.int .i64 (g)) ∧ vb1.cell? ⟨w.heap.size, 2, none⟩ = some (.int .i64 (a)) ∧ vb1.cell? ⟨p, 0, none⟩ = some (.int .i64 (N + 1)) ∧ vb1.cell? ⟨p, 1, none⟩ = some (.int .i64 (g)) ∧ vb1.cell? ⟨p, 2, none⟩ = some (.int .i64 (a)) ∧ vb1.cell? ⟨q, 0, none⟩ = some (.int .i64 (f)) ∧ vb1.cell? ⟨q, 1, none⟩ = some (.int .i64 (N + 1)) ∧ vb1.cell? ⟨q, 2, none⟩ = some (.int .i64 (a))) := sOf Tq; clear Tq))
        (try go_wp2_with fail)
        refine hK.out _ _ ?_ (fun hHeld => ?_)
        · ((try dsimp only); (with_reducible (first | exact sXb | exact sDb | assumption | exact sAl (by assumption) | exact sDr (sAl sXb) | exact sDr (by assumption))))
        clear hK K
        (try simp only [Act.put, List.setIfInBounds_toArray, List.set_cons_zero, List.set_cons_succ, List.getElem_toArray, List.getElem_cons_succ, List.getElem_cons_zero])
        refine wpAnyH_take (i := 34) (v := ?_) rfl (by kernel_rfl) (by kernel_rfl) (by kernel_rfl) (fun _ _ _ h => h) (Or.inl ⟨by rfl, ?_⟩) (by assumption) ?_
        rotate_left
        · ((intro w hSw); (try dsimp only at hSw); (try simp only [List.getElem_toArray, List.getElem_cons_succ, List.getElem_cons_zero]); (go_simp); (try with_reducible rfl))
        (try simp only [Act.put, List.setIfInBounds_toArray, List.set_cons_zero, List.set_cons_succ, List.getElem_toArray, List.getElem_cons_succ, List.getElem_cons_zero])
        refine wpAnyH_take (i := 35) (v := ?_) rfl (by kernel_rfl) (by kernel_rfl) (by kernel_rfl) (fun _ _ _ h => h) (Or.inl ⟨by rfl, ?_⟩) (by assumption) ?_
        rotate_left
        · ((intro w hSw); (try dsimp only at hSw); (try simp only [List.getElem_toArray, List.getElem_cons_succ, List.getElem_cons_zero]); (go_simp); (try with_reducible rfl))
        (try simp only [Act.put, List.setIfInBounds_toArray, List.set_cons_zero, List.set_cons_succ, List.getElem_toArray, List.getElem_cons_succ, List.getElem_cons_zero])
        refine wpAnyH_take (i := 36) (v := ?_) rfl (by kernel_rfl) (by kernel_rfl) (by kernel_rfl) (fun _ _ _ h => h) (Or.inl ⟨by rfl, ?_⟩) (by assumption) ?_
        rotate_left
        · ((intro w hSw); (try dsimp only at hSw); (try simp only [List.getElem_toArray, List.getElem_cons_succ, List.getElem_cons_zero]); (go_simp); (try with_reducible rfl))
        (try simp only [Act.put, List.setIfInBounds_toArray, List.set_cons_zero, List.set_cons_succ, List.getElem_toArray, List.getElem_cons_succ, List.getElem_cons_zero])
        refine wpAnyH_take (i := 37) (v := ?_) rfl (by kernel_rfl) (by kernel_rfl) (by kernel_rfl) (fun _ _ _ h => h) (Or.inl ⟨by rfl, ?_⟩) (by assumption) ?_
        rotate_left
        · ((intro w hSw); (try dsimp only at hSw); (try simp only [List.getElem_toArray, List.getElem_cons_succ, List.getElem_cons_zero]); (go_simp); (try with_reducible rfl))
        (try simp only [Act.put, List.setIfInBounds_toArray, List.set_cons_zero, List.set_cons_succ, List.getElem_toArray, List.getElem_cons_succ, List.getElem_cons_zero])
        refine wpAnyH_take (i := 38) (v := ?_) rfl (by kernel_rfl) (by kernel_rfl) (by kernel_rfl) (fun _ _ _ h => h) (Or.inl ⟨by rfl, ?_⟩) (by assumption) ?_
        rotate_left
        · ((intro w hSw); (try dsimp only at hSw); (try simp only [List.getElem_toArray, List.getElem_cons_succ, List.getElem_cons_zero]); (go_simp); (try with_reducible rfl))
        (try simp only [Act.put, List.setIfInBounds_toArray, List.set_cons_zero, List.set_cons_succ, List.getElem_toArray, List.getElem_cons_succ, List.getElem_cons_zero])
        refine wpAnyH_take (i := 41) (v := ?_) rfl (by kernel_rfl) (by kernel_rfl) (by kernel_rfl) (fun _ _ _ h => h) (Or.inl ⟨by rfl, ?_⟩) (by assumption) ?_
        rotate_left
        · ((intro w hSw); (try dsimp only at hSw); (try simp only [List.getElem_toArray, List.getElem_cons_succ, List.getElem_cons_zero]); (go_simp); (try with_reducible rfl))
        (try simp only [Act.put, List.setIfInBounds_toArray, List.set_cons_zero, List.set_cons_succ, List.getElem_toArray, List.getElem_cons_succ, List.getElem_cons_zero])
        refine wpAnyH_ready (rs := [39]) (by kernel_rfl) (by simp) ?_
        refine AllReadyH.cons rfl (fun K hK => ?_) AllReadyH.nil
        (try simp only [List.getElem_toArray, List.getElem_cons_succ, List.getElem_cons_zero])
        go_simp
        refine hK.out _ _ ?_ (fun hHeld => ?_)
        · ((try dsimp only); (with_reducible (first | exact sXb | exact sDb | assumption | exact sAl (by assumption) | exact sDr (sAl sXb) | exact sDr (by assumption))))
        clear hK K
        (try simp only [Act.put, List.setIfInBounds_toArray, List.set_cons_zero, List.set_cons_succ, List.getElem_toArray, List.getElem_cons_succ, List.getElem_cons_zero])
        refine wpAnyH_ready (rs := [40]) (by kernel_rfl) (by simp) ?_
        refine AllReadyH.cons rfl (fun K hK => ?_) AllReadyH.nil
        (try simp only [List.getElem_toArray, List.getElem_cons_succ, List.getElem_cons_zero])
        go_simp
        (first | ((go_at_call 9); (with_reducible refine (Db0.out _ _ ?hnDb0 ?htDb0).mono ?_); (case hnDb0 => rfl); (case htDb0 => first | exact sXb.1 | exact sDb.1 | (apply And.left; assumption)); rintro e vb0 ⟨rfl, Tq⟩; have sqb0 : (Three w vb0 w.heap.size p q ⟨f, g, a⟩ ⟨N + 1, g, a⟩ ⟨f, N + 1, a⟩ ∧ vb0.cell? ⟨w.heap.size, 0, none⟩ = some (.int .i64 (f)) ∧ vb0.cell? ⟨w.heap.size, 1, none⟩ = some (.int .i64 (g)) ∧ vb0.cell? ⟨w.heap.size, 2, none⟩ = some (.int .i64 (a)) ∧ vb0.cell? ⟨p, 0, none⟩ = some (.int .i64 (N + 1)) ∧ vb0.cell? ⟨p, 1, none⟩ = some (.int .i64 (g)) ∧ vb0.cell? ⟨p, 2, none⟩ = some (.int .i64 (a)) ∧ vb0.cell? ⟨q, 0, none⟩ = some (.int .i64 (f)) ∧ vb0.cell? ⟨q, 1, none⟩ = some (.int .i64 (N + 1)) ∧ vb0.cell? ⟨q, 2, none⟩ = some (.int .i64 (a))) := sOf Tq; clear Tq) | ((go_at_call 9); (with_reducible refine (Cb0.out _ _ ?hnCb0 ?htCb0).mono ?_); (case hnCb0 => rfl); (case htCb0 => first | exact sXb.1 | exact sDb.1 | (apply And.left; assumption)); rintro e vb0 ⟨rfl, Tq⟩; have sqb0 : (Three w vb0 w.heap.size p q ⟨f, g, a⟩ ⟨N + 1, g, a⟩ ⟨f, N + 1, a⟩ ∧ vb0.cell? ⟨w.heap.size, 0, none⟩ = some (.int .i64 (f)) ∧ vb0.cell? ⟨w.heap.size, 1, none⟩ = some (.int .i64 (g)) ∧ vb0.cell? ⟨w.heap.size, 2, none⟩ = some (.int .i64 (a)) ∧ vb0.cell? ⟨p, 0, none⟩ = some (.int .i64 (N + 1)) ∧ vb0.cell? ⟨p, 1, none⟩ = some (.int .i64 (g)) ∧ vb0.cell? ⟨p, 2, none⟩ = some (.int .i64 (a)) ∧ vb0.cell? ⟨q, 0, none⟩ = some (.int .i64 (f)) ∧ vb0.cell? ⟨q, 1, none⟩ = some (.int .i64 (N + 1)) ∧ vb0.cell? ⟨q, 2, none⟩ = some (.int .i64 (a))) := sOf Tq; clear Tq) | ((go_at_call 9); (with_reducible refine (Db1.out _ _ ?hnDb1 ?htDb1).mono ?_); (case hnDb1 => rfl); (case htDb1 => first | exact sXb.1 | exact sDb.1 | (apply And.left; assumption)); rintro e vb1 ⟨rfl, Tq⟩; have sqb1 : (Three w vb1 w.heap.size p q ⟨f, g, a⟩ ⟨N + 1, g, a⟩ ⟨f, N + 1, a⟩ ∧ vb1.cell? ⟨w.heap.size, 0, none⟩ = some (.int .i64 (f)) ∧ vb1.cell? ⟨w.heap.size, 1, none⟩ = some (.int .i64 (g)) ∧ vb1.cell? ⟨w.heap.size, 2, none⟩ = some (.int .i64 (a)) ∧ vb1.cell? ⟨p, 0, none⟩ = some (.int .i64 (N + 1)) ∧ vb1.cell? ⟨p, 1, none⟩ = some (.int .i64 (g)) ∧ vb1.cell? ⟨p, 2, none⟩ = some (.int .i64 (a)) ∧ vb1.cell? ⟨q, 0, none⟩ = some (.int .i64 (f)) ∧ vb1.cell? ⟨q, 1, none⟩ = some (.int .i64 (N + 1)) ∧ vb1.cell? ⟨q, 2, none⟩ = some (.int .i64 (a))) := sOf Tq; clear Tq) | ((go_at_call 9); (with_reducible refine (Cb1.out _ _ ?hnCb1 ?htCb1).mono ?_); (case hnCb1 => rfl); (case htCb1 => first | exact sXb.1 | exact sDb.1 | (apply And.left; assumption)); rintro e vb1 ⟨rfl, Tq⟩; have sqb1 : (Three w vb1 w.heap.size p q ⟨f, g, a⟩ ⟨N + 1, g, a⟩ ⟨f, N + 1, a⟩ ∧ vb1.cell? ⟨w.heap.size, 0, none⟩ = some (.int .i64 (f)) ∧ vb1.cell? ⟨w.heap.size, 1, none⟩ = some (.int .i64 (g)) ∧ vb1.cell? ⟨w.heap.size, 2, none⟩ = some (.int .i64 (a)) ∧ vb1.cell? ⟨p, 0, none⟩ = some (.int .i64 (N + 1)) ∧ vb1.cell? ⟨p, 1, none⟩ = some (.int .i64 (g)) ∧ vb1.cell? ⟨p, 2, none⟩ = some (.int .i64 (a)) ∧ vb1.cell? ⟨q, 0, none⟩ = some (.int .i64 (f)) ∧ vb1.cell? ⟨q, 1, none⟩ = some (.int .i64 (N + 1)) ∧ vb1.cell? ⟨q, 2, none⟩ = some (.int .i64 (a))) := sOf Tq; clear Tq))
        (try go_wp2_with fail)
        refine hK.out _ _ ?_ (fun hHeld => ?_)
        · ((try dsimp only); (with_reducible (first | exact sXb | exact sDb | assumption | exact sAl (by assumption) | exact sDr (sAl sXb) | exact sDr (by assumption))))
        clear hK K
        (try simp only [Act.put, List.setIfInBounds_toArray, List.set_cons_zero, List.set_cons_succ, List.getElem_toArray, List.getElem_cons_succ, List.getElem_cons_zero])
        refine wpAnyH_take (i := 42) (v := ?_) rfl (by kernel_rfl) (by kernel_rfl) (by kernel_rfl) (fun _ _ _ h => h) (Or.inl ⟨by rfl, ?_⟩) (by assumption) ?_
        rotate_left
        · ((intro w hSw); (try dsimp only at hSw); (try simp only [List.getElem_toArray, List.getElem_cons_succ, List.getElem_cons_zero]); (go_simp); (try with_reducible rfl))
        (try simp only [Act.put, List.setIfInBounds_toArray, List.set_cons_zero, List.set_cons_succ, List.getElem_toArray, List.getElem_cons_succ, List.getElem_cons_zero])
        refine wpAnyH_take (i := 43) (v := ?_) rfl (by kernel_rfl) (by kernel_rfl) (by kernel_rfl) (fun _ _ _ h => h) (Or.inl ⟨by rfl, ?_⟩) (by assumption) ?_
        rotate_left
        · ((intro w hSw); (try dsimp only at hSw); (try simp only [List.getElem_toArray, List.getElem_cons_succ, List.getElem_cons_zero]); (go_simp); (try with_reducible rfl))
        (try simp only [Act.put, List.setIfInBounds_toArray, List.set_cons_zero, List.set_cons_succ, List.getElem_toArray, List.getElem_cons_succ, List.getElem_cons_zero])
        refine wpAnyH_take (i := 44) (v := ?_) rfl (by kernel_rfl) (by kernel_rfl) (by kernel_rfl) (fun _ _ _ h => h) (Or.inl ⟨by rfl, ?_⟩) (by assumption) ?_
        rotate_left
        · ((intro w hSw); (try dsimp only at hSw); (try simp only [List.getElem_toArray, List.getElem_cons_succ, List.getElem_cons_zero]); (go_simp); (try with_reducible rfl))
        (try simp only [Act.put, List.setIfInBounds_toArray, List.set_cons_zero, List.set_cons_succ, List.getElem_toArray, List.getElem_cons_succ, List.getElem_cons_zero])
        refine wpAnyH_take (i := 45) (v := ?_) rfl (by kernel_rfl) (by kernel_rfl) (by kernel_rfl) (fun _ _ _ h => h) (Or.inl ⟨by rfl, ?_⟩) (by assumption) ?_
        rotate_left
        · ((intro w hSw); (try dsimp only at hSw); (try simp only [List.getElem_toArray, List.getElem_cons_succ, List.getElem_cons_zero]); (go_simp); (try with_reducible rfl))
        (try simp only [Act.put, List.setIfInBounds_toArray, List.set_cons_zero, List.set_cons_succ, List.getElem_toArray, List.getElem_cons_succ, List.getElem_cons_zero])
        refine wpAnyH_done (by kernel_rfl) ?_ _
        refine NoPanic.normal ?_
        go_wp2_with fail
        go_meet
        exact ⟨rfl, sqb1.1⟩
      · have hg8 : decide (N < (8 : Int)) = false := decide_eq_false (by omega)
        have hg7 : (8 : Int) ≤ N := by omega
        have hg9 : decide (N < (16 : Int)) = false := decide_eq_false (by omega)
        have sXc : (Three w w1y w.heap.size p q ⟨f, g, a⟩ ⟨N + 1, g, a⟩ ⟨f, N + 1, a⟩ ∧ w1y.cell? ⟨w.heap.size, 0, none⟩ = some (.int .i64 (f)) ∧ w1y.cell? ⟨w.heap.size, 1, none⟩ = some (.int .i64 (g)) ∧ w1y.cell? ⟨w.heap.size, 2, none⟩ = some (.int .i64 (a)) ∧ w1y.cell? ⟨p, 0, none⟩ = some (.int .i64 (N + 1)) ∧ w1y.cell? ⟨p, 1, none⟩ = some (.int .i64 (g)) ∧ w1y.cell? ⟨p, 2, none⟩ = some (.int .i64 (a)) ∧ w1y.cell? ⟨q, 0, none⟩ = some (.int .i64 (f)) ∧ w1y.cell? ⟨q, 1, none⟩ = some (.int .i64 (N + 1)) ∧ w1y.cell? ⟨q, 2, none⟩ = some (.int .i64 (a))) := sOf HTW.out
        have sDc : (Three w w1y.drew w.heap.size p q ⟨f, g, a⟩ ⟨N + 1, g, a⟩ ⟨f, N + 1, a⟩ ∧ w1y.drew.cell? ⟨w.heap.size, 0, none⟩ = some (.int .i64 (f)) ∧ w1y.drew.cell? ⟨w.heap.size, 1, none⟩ = some (.int .i64 (g)) ∧ w1y.drew.cell? ⟨w.heap.size, 2, none⟩ = some (.int .i64 (a)) ∧ w1y.drew.cell? ⟨p, 0, none⟩ = some (.int .i64 (N + 1)) ∧ w1y.drew.cell? ⟨p, 1, none⟩ = some (.int .i64 (g)) ∧ w1y.drew.cell? ⟨p, 2, none⟩ = some (.int .i64 (a)) ∧ w1y.drew.cell? ⟨q, 0, none⟩ = some (.int .i64 (f)) ∧ w1y.drew.cell? ⟨q, 1, none⟩ = some (.int .i64 (N + 1)) ∧ w1y.drew.cell? ⟨q, 2, none⟩ = some (.int .i64 (a))) := sOf HTW.out.drew
        refine wp_region_noPanic ?_
        refine wp_region_held_drew (S := (fun X => (Three w X w.heap.size p q ⟨f, g, a⟩ ⟨N + 1, g, a⟩ ⟨f, N + 1, a⟩ ∧ X.cell? ⟨w.heap.size, 0, none⟩ = some (.int .i64 (f)) ∧ X.cell? ⟨w.heap.size, 1, none⟩ = some (.int .i64 (g)) ∧ X.cell? ⟨w.heap.size, 2, none⟩ = some (.int .i64 (a)) ∧ X.cell? ⟨p, 0, none⟩ = some (.int .i64 (N + 1)) ∧ X.cell? ⟨p, 1, none⟩ = some (.int .i64 (g)) ∧ X.cell? ⟨p, 2, none⟩ = some (.int .i64 (a)) ∧ X.cell? ⟨q, 0, none⟩ = some (.int .i64 (f)) ∧ X.cell? ⟨q, 1, none⟩ = some (.int .i64 (N + 1)) ∧ X.cell? ⟨q, 2, none⟩ = some (.int .i64 (a))))) (by kernel_rfl) ?_ (fun hHeld => ?_)
        · ((try dsimp only); (with_reducible (first | exact sDc | assumption)))
        refine wpAnyH_take (i := 0) (v := ?_) rfl (by kernel_rfl) (by kernel_rfl) (by kernel_rfl) (fun _ _ _ h => h) (Or.inl ⟨by rfl, ?_⟩) (by assumption) ?_
        rotate_left
        · ((intro w hSw); (try dsimp only at hSw); (try simp only [List.getElem_toArray, List.getElem_cons_zero]); (go_simp); (try with_reducible rfl))
        (try simp only [Act.put, List.setIfInBounds_toArray, List.set_cons_zero, List.set_cons_succ, List.getElem_toArray, List.getElem_cons_zero])
        refine wpAnyH_take (i := 1) (v := ?_) rfl (by kernel_rfl) (by kernel_rfl) (by kernel_rfl) (fun _ _ _ h => h) (Or.inl ⟨by rfl, ?_⟩) (by assumption) ?_
        rotate_left
        · ((intro w hSw); (try dsimp only at hSw); (try simp only [List.getElem_toArray, List.getElem_cons_succ, List.getElem_cons_zero]); (go_simp); (try with_reducible rfl))
        (try simp only [Act.put, List.setIfInBounds_toArray, List.set_cons_zero, List.set_cons_succ, List.getElem_toArray, List.getElem_cons_succ, List.getElem_cons_zero])
        refine wpAnyH_take (i := 2) (v := ?_) rfl (by kernel_rfl) (by kernel_rfl) (by kernel_rfl) (fun _ _ _ h => h) (Or.inl ⟨by rfl, ?_⟩) (by assumption) ?_
        rotate_left
        · ((intro w hSw); (try dsimp only at hSw); (try simp only [List.getElem_toArray, List.getElem_cons_succ, List.getElem_cons_zero]); (go_simp); (try with_reducible rfl))
        (try simp only [Act.put, List.setIfInBounds_toArray, List.set_cons_zero, List.set_cons_succ, List.getElem_toArray, List.getElem_cons_succ, List.getElem_cons_zero])
        refine wpAnyH_take (i := 3) (v := undef) rfl (by kernel_rfl) (by kernel_rfl) (by kernel_rfl) (fun _ _ _ h => h) (Or.inr ⟨by rfl, rfl⟩) (by assumption) ?_
        (try simp only [Act.put, List.setIfInBounds_toArray, List.set_cons_zero, List.set_cons_succ, List.getElem_toArray, List.getElem_cons_succ, List.getElem_cons_zero])
        refine wpAnyH_take (i := 4) (v := undef) rfl (by kernel_rfl) (by kernel_rfl) (by kernel_rfl) (fun _ _ _ h => h) (Or.inr ⟨by rfl, rfl⟩) (by assumption) ?_
        (try simp only [Act.put, List.setIfInBounds_toArray, List.set_cons_zero, List.set_cons_succ, List.getElem_toArray, List.getElem_cons_succ, List.getElem_cons_zero])
        refine wpAnyH_take (i := 5) (v := undef) rfl (by kernel_rfl) (by kernel_rfl) (by kernel_rfl) (fun _ _ _ h => h) (Or.inr ⟨by rfl, rfl⟩) (by assumption) ?_
        (try simp only [Act.put, List.setIfInBounds_toArray, List.set_cons_zero, List.set_cons_succ, List.getElem_toArray, List.getElem_cons_succ, List.getElem_cons_zero])
        refine wpAnyH_take (i := 6) (v := undef) rfl (by kernel_rfl) (by kernel_rfl) (by kernel_rfl) (fun _ _ _ h => h) (Or.inr ⟨by rfl, rfl⟩) (by assumption) ?_
        (try simp only [Act.put, List.setIfInBounds_toArray, List.set_cons_zero, List.set_cons_succ, List.getElem_toArray, List.getElem_cons_succ, List.getElem_cons_zero])
        refine wpAnyH_take (i := 7) (v := undef) rfl (by kernel_rfl) (by kernel_rfl) (by kernel_rfl) (fun _ _ _ h => h) (Or.inr ⟨by rfl, rfl⟩) (by assumption) ?_
        (try simp only [Act.put, List.setIfInBounds_toArray, List.set_cons_zero, List.set_cons_succ, List.getElem_toArray, List.getElem_cons_succ, List.getElem_cons_zero])
        refine wpAnyH_take (i := 8) (v := undef) rfl (by kernel_rfl) (by kernel_rfl) (by kernel_rfl) (fun _ _ _ h => h) (Or.inr ⟨by rfl, rfl⟩) (by assumption) ?_
        (try simp only [Act.put, List.setIfInBounds_toArray, List.set_cons_zero, List.set_cons_succ, List.getElem_toArray, List.getElem_cons_succ, List.getElem_cons_zero])
        refine wpAnyH_take (i := 9) (v := undef) rfl (by kernel_rfl) (by kernel_rfl) (by kernel_rfl) (fun _ _ _ h => h) (Or.inr ⟨by rfl, rfl⟩) (by assumption) ?_
        (try simp only [Act.put, List.setIfInBounds_toArray, List.set_cons_zero, List.set_cons_succ, List.getElem_toArray, List.getElem_cons_succ, List.getElem_cons_zero])
        refine wpAnyH_take (i := 10) (v := undef) rfl (by kernel_rfl) (by kernel_rfl) (by kernel_rfl) (fun _ _ _ h => h) (Or.inr ⟨by rfl, rfl⟩) (by assumption) ?_
        (try simp only [Act.put, List.setIfInBounds_toArray, List.set_cons_zero, List.set_cons_succ, List.getElem_toArray, List.getElem_cons_succ, List.getElem_cons_zero])
        refine wpAnyH_take (i := 11) (v := undef) rfl (by kernel_rfl) (by kernel_rfl) (by kernel_rfl) (fun _ _ _ h => h) (Or.inr ⟨by rfl, rfl⟩) (by assumption) ?_
        (try simp only [Act.put, List.setIfInBounds_toArray, List.set_cons_zero, List.set_cons_succ, List.getElem_toArray, List.getElem_cons_succ, List.getElem_cons_zero])
        refine wpAnyH_take (i := 12) (v := undef) rfl (by kernel_rfl) (by kernel_rfl) (by kernel_rfl) (fun _ _ _ h => h) (Or.inr ⟨by rfl, rfl⟩) (by assumption) ?_
        (try simp only [Act.put, List.setIfInBounds_toArray, List.set_cons_zero, List.set_cons_succ, List.getElem_toArray, List.getElem_cons_succ, List.getElem_cons_zero])
        refine wpAnyH_take (i := 13) (v := undef) rfl (by kernel_rfl) (by kernel_rfl) (by kernel_rfl) (fun _ _ _ h => h) (Or.inr ⟨by rfl, rfl⟩) (by assumption) ?_
        (try simp only [Act.put, List.setIfInBounds_toArray, List.set_cons_zero, List.set_cons_succ, List.getElem_toArray, List.getElem_cons_succ, List.getElem_cons_zero])
        refine wpAnyH_take (i := 14) (v := undef) rfl (by kernel_rfl) (by kernel_rfl) (by kernel_rfl) (fun _ _ _ h => h) (Or.inr ⟨by rfl, rfl⟩) (by assumption) ?_
        (try simp only [Act.put, List.setIfInBounds_toArray, List.set_cons_zero, List.set_cons_succ, List.getElem_toArray, List.getElem_cons_succ, List.getElem_cons_zero])
        refine wpAnyH_take (i := 15) (v := undef) rfl (by kernel_rfl) (by kernel_rfl) (by kernel_rfl) (fun _ _ _ h => h) (Or.inr ⟨by rfl, rfl⟩) (by assumption) ?_
        (try simp only [Act.put, List.setIfInBounds_toArray, List.set_cons_zero, List.set_cons_succ, List.getElem_toArray, List.getElem_cons_succ, List.getElem_cons_zero])
        refine wpAnyH_take (i := 16) (v := undef) rfl (by kernel_rfl) (by kernel_rfl) (by kernel_rfl) (fun _ _ _ h => h) (Or.inr ⟨by rfl, rfl⟩) (by assumption) ?_
        (try simp only [Act.put, List.setIfInBounds_toArray, List.set_cons_zero, List.set_cons_succ, List.getElem_toArray, List.getElem_cons_succ, List.getElem_cons_zero])
        refine wpAnyH_take (i := 17) (v := undef) rfl (by kernel_rfl) (by kernel_rfl) (by kernel_rfl) (fun _ _ _ h => h) (Or.inr ⟨by rfl, rfl⟩) (by assumption) ?_
        (try simp only [Act.put, List.setIfInBounds_toArray, List.set_cons_zero, List.set_cons_succ, List.getElem_toArray, List.getElem_cons_succ, List.getElem_cons_zero])
        refine wpAnyH_take (i := 18) (v := undef) rfl (by kernel_rfl) (by kernel_rfl) (by kernel_rfl) (fun _ _ _ h => h) (Or.inr ⟨by rfl, rfl⟩) (by assumption) ?_
        (try simp only [Act.put, List.setIfInBounds_toArray, List.set_cons_zero, List.set_cons_succ, List.getElem_toArray, List.getElem_cons_succ, List.getElem_cons_zero])
        refine wpAnyH_take (i := 19) (v := ?_) rfl (by kernel_rfl) (by kernel_rfl) (by kernel_rfl) (fun _ _ _ h => h) (Or.inl ⟨by rfl, ?_⟩) (by assumption) ?_
        rotate_left
        · ((intro w hSw); (try dsimp only at hSw); (try simp only [List.getElem_toArray, List.getElem_cons_succ, List.getElem_cons_zero]); (go_simp); (try with_reducible rfl))
        (try simp only [Act.put, List.setIfInBounds_toArray, List.set_cons_zero, List.set_cons_succ, List.getElem_toArray, List.getElem_cons_succ, List.getElem_cons_zero])
        refine wpAnyH_take (i := 20) (v := ?_) rfl (by kernel_rfl) (by kernel_rfl) (by kernel_rfl) (fun _ _ _ h => h) (Or.inl ⟨by rfl, ?_⟩) (by assumption) ?_
        rotate_left
        · ((intro w hSw); (try dsimp only at hSw); (try simp only [List.getElem_toArray, List.getElem_cons_succ, List.getElem_cons_zero]); (go_simp); (try with_reducible rfl))
        (try simp only [Act.put, List.setIfInBounds_toArray, List.set_cons_zero, List.set_cons_succ, List.getElem_toArray, List.getElem_cons_succ, List.getElem_cons_zero])
        refine wpAnyH_take (i := 21) (v := ?_) rfl (by kernel_rfl) (by kernel_rfl) (by kernel_rfl) (fun _ _ _ h => h) (Or.inl ⟨by rfl, ?_⟩) (by assumption) ?_
        rotate_left
        · ((intro w hSw); (try dsimp only at hSw); (try simp only [List.getElem_toArray, List.getElem_cons_succ, List.getElem_cons_zero]); (go_simp); (try with_reducible rfl))
        (try simp only [Act.put, List.setIfInBounds_toArray, List.set_cons_zero, List.set_cons_succ, List.getElem_toArray, List.getElem_cons_succ, List.getElem_cons_zero])
        refine wpAnyH_take (i := 22) (v := ?_) rfl (by kernel_rfl) (by kernel_rfl) (by kernel_rfl) (fun _ _ _ h => h) (Or.inl ⟨by rfl, ?_⟩) (by assumption) ?_
        rotate_left
        · ((intro w hSw); (try dsimp only at hSw); (try simp only [List.getElem_toArray, List.getElem_cons_succ, List.getElem_cons_zero]); (go_simp); (try with_reducible rfl))
        (try simp only [Act.put, List.setIfInBounds_toArray, List.set_cons_zero, List.set_cons_succ, List.getElem_toArray, List.getElem_cons_succ, List.getElem_cons_zero])
        refine wpAnyH_take (i := 23) (v := ?_) rfl (by kernel_rfl) (by kernel_rfl) (by kernel_rfl) (fun _ _ _ h => h) (Or.inl ⟨by rfl, ?_⟩) (by assumption) ?_
        rotate_left
        · ((intro w hSw); (try dsimp only at hSw); (try simp only [List.getElem_toArray, List.getElem_cons_succ, List.getElem_cons_zero]); (go_simp); (try with_reducible rfl))
        (try simp only [Act.put, List.setIfInBounds_toArray, List.set_cons_zero, List.set_cons_succ, List.getElem_toArray, List.getElem_cons_succ, List.getElem_cons_zero])
        refine wpAnyH_take (i := 24) (v := ?_) rfl (by kernel_rfl) (by kernel_rfl) (by kernel_rfl) (fun _ _ _ h => h) (Or.inl ⟨by rfl, ?_⟩) (by assumption) ?_
        rotate_left
        · ((intro w hSw); (try dsimp only at hSw); (try simp only [List.getElem_toArray, List.getElem_cons_succ, List.getElem_cons_zero]); (go_simp); (try with_reducible rfl))
        (try simp only [Act.put, List.setIfInBounds_toArray, List.set_cons_zero, List.set_cons_succ, List.getElem_toArray, List.getElem_cons_succ, List.getElem_cons_zero])
        refine wpAnyH_take (i := 25) (v := ?_) rfl (by kernel_rfl) (by kernel_rfl) (by kernel_rfl) (fun _ _ _ h => h) (Or.inl ⟨by rfl, ?_⟩) (by assumption) ?_
        rotate_left
        · ((intro w hSw); (try dsimp only at hSw); (try simp only [List.getElem_toArray, List.getElem_cons_succ, List.getElem_cons_zero]); (go_simp); (try with_reducible rfl))
        (try simp only [Act.put, List.setIfInBounds_toArray, List.set_cons_zero, List.set_cons_succ, List.getElem_toArray, List.getElem_cons_succ, List.getElem_cons_zero])
        refine wpAnyH_take (i := 26) (v := ?_) rfl (by kernel_rfl) (by kernel_rfl) (by kernel_rfl) (fun _ _ _ h => h) (Or.inl ⟨by rfl, ?_⟩) (by assumption) ?_
        rotate_left
        · ((intro w hSw); (try dsimp only at hSw); (try simp only [List.getElem_toArray, List.getElem_cons_succ, List.getElem_cons_zero]); (go_simp); (try with_reducible rfl))
        (try simp only [Act.put, List.setIfInBounds_toArray, List.set_cons_zero, List.set_cons_succ, List.getElem_toArray, List.getElem_cons_succ, List.getElem_cons_zero])
        refine wpAnyH_take (i := 27) (v := ?_) rfl (by kernel_rfl) (by kernel_rfl) (by kernel_rfl) (fun _ _ _ h => h) (Or.inl ⟨by rfl, ?_⟩) (by assumption) ?_
        rotate_left
        · ((intro w hSw); (try dsimp only at hSw); (try simp only [List.getElem_toArray, List.getElem_cons_succ, List.getElem_cons_zero]); (go_simp); (try with_reducible rfl))
        (try simp only [Act.put, List.setIfInBounds_toArray, List.set_cons_zero, List.set_cons_succ, List.getElem_toArray, List.getElem_cons_succ, List.getElem_cons_zero])
        refine wpAnyH_take (i := 28) (v := undef) rfl (by kernel_rfl) (by kernel_rfl) (by kernel_rfl) (fun _ _ _ h => h) (Or.inr ⟨by rfl, rfl⟩) (by assumption) ?_
        (try simp only [Act.put, List.setIfInBounds_toArray, List.set_cons_zero, List.set_cons_succ, List.getElem_toArray, List.getElem_cons_succ, List.getElem_cons_zero])
        refine wpAnyH_take (i := 29) (v := undef) rfl (by kernel_rfl) (by kernel_rfl) (by kernel_rfl) (fun _ _ _ h => h) (Or.inr ⟨by rfl, rfl⟩) (by assumption) ?_
        (try simp only [Act.put, List.setIfInBounds_toArray, List.set_cons_zero, List.set_cons_succ, List.getElem_toArray, List.getElem_cons_succ, List.getElem_cons_zero])
        refine wpAnyH_take (i := 30) (v := undef) rfl (by kernel_rfl) (by kernel_rfl) (by kernel_rfl) (fun _ _ _ h => h) (Or.inr ⟨by rfl, rfl⟩) (by assumption) ?_
        (try simp only [Act.put, List.setIfInBounds_toArray, List.set_cons_zero, List.set_cons_succ, List.getElem_toArray, List.getElem_cons_succ, List.getElem_cons_zero])
        refine wpAnyH_take (i := 31) (v := undef) rfl (by kernel_rfl) (by kernel_rfl) (by kernel_rfl) (fun _ _ _ h => h) (Or.inr ⟨by rfl, rfl⟩) (by assumption) ?_
        (try simp only [Act.put, List.setIfInBounds_toArray, List.set_cons_zero, List.set_cons_succ, List.getElem_toArray, List.getElem_cons_succ, List.getElem_cons_zero])
        refine wpAnyH_take (i := 32) (v := undef) rfl (by kernel_rfl) (by kernel_rfl) (by kernel_rfl) (fun _ _ _ h => h) (Or.inr ⟨by rfl, rfl⟩) (by assumption) ?_
        (try simp only [Act.put, List.setIfInBounds_toArray, List.set_cons_zero, List.set_cons_succ, List.getElem_toArray, List.getElem_cons_succ, List.getElem_cons_zero])
        refine wpAnyH_take (i := 33) (v := undef) rfl (by kernel_rfl) (by kernel_rfl) (by kernel_rfl) (fun _ _ _ h => h) (Or.inr ⟨by rfl, rfl⟩) (by assumption) ?_
        (try simp only [Act.put, List.setIfInBounds_toArray, List.set_cons_zero, List.set_cons_succ, List.getElem_toArray, List.getElem_cons_succ, List.getElem_cons_zero])
        refine wpAnyH_take (i := 34) (v := undef) rfl (by kernel_rfl) (by kernel_rfl) (by kernel_rfl) (fun _ _ _ h => h) (Or.inr ⟨by rfl, rfl⟩) (by assumption) ?_
        (try simp only [Act.put, List.setIfInBounds_toArray, List.set_cons_zero, List.set_cons_succ, List.getElem_toArray, List.getElem_cons_succ, List.getElem_cons_zero])
        refine wpAnyH_take (i := 35) (v := undef) rfl (by kernel_rfl) (by kernel_rfl) (by kernel_rfl) (fun _ _ _ h => h) (Or.inr ⟨by rfl, rfl⟩) (by assumption) ?_
        (try simp only [Act.put, List.setIfInBounds_toArray, List.set_cons_zero, List.set_cons_succ, List.getElem_toArray, List.getElem_cons_succ, List.getElem_cons_zero])
        refine wpAnyH_take (i := 36) (v := undef) rfl (by kernel_rfl) (by kernel_rfl) (by kernel_rfl) (fun _ _ _ h => h) (Or.inr ⟨by rfl, rfl⟩) (by assumption) ?_
        (try simp only [Act.put, List.setIfInBounds_toArray, List.set_cons_zero, List.set_cons_succ, List.getElem_toArray, List.getElem_cons_succ, List.getElem_cons_zero])
        refine wpAnyH_take (i := 37) (v := undef) rfl (by kernel_rfl) (by kernel_rfl) (by kernel_rfl) (fun _ _ _ h => h) (Or.inr ⟨by rfl, rfl⟩) (by assumption) ?_
        (try simp only [Act.put, List.setIfInBounds_toArray, List.set_cons_zero, List.set_cons_succ, List.getElem_toArray, List.getElem_cons_succ, List.getElem_cons_zero])
        refine wpAnyH_take (i := 38) (v := undef) rfl (by kernel_rfl) (by kernel_rfl) (by kernel_rfl) (fun _ _ _ h => h) (Or.inr ⟨by rfl, rfl⟩) (by assumption) ?_
        (try simp only [Act.put, List.setIfInBounds_toArray, List.set_cons_zero, List.set_cons_succ, List.getElem_toArray, List.getElem_cons_succ, List.getElem_cons_zero])
        refine wpAnyH_take (i := 39) (v := undef) rfl (by kernel_rfl) (by kernel_rfl) (by kernel_rfl) (fun _ _ _ h => h) (Or.inr ⟨by rfl, rfl⟩) (by assumption) ?_
        (try simp only [Act.put, List.setIfInBounds_toArray, List.set_cons_zero, List.set_cons_succ, List.getElem_toArray, List.getElem_cons_succ, List.getElem_cons_zero])
        refine wpAnyH_take (i := 40) (v := undef) rfl (by kernel_rfl) (by kernel_rfl) (by kernel_rfl) (fun _ _ _ h => h) (Or.inr ⟨by rfl, rfl⟩) (by assumption) ?_
        (try simp only [Act.put, List.setIfInBounds_toArray, List.set_cons_zero, List.set_cons_succ, List.getElem_toArray, List.getElem_cons_succ, List.getElem_cons_zero])
        refine wpAnyH_take (i := 41) (v := undef) rfl (by kernel_rfl) (by kernel_rfl) (by kernel_rfl) (fun _ _ _ h => h) (Or.inr ⟨by rfl, rfl⟩) (by assumption) ?_
        (try simp only [Act.put, List.setIfInBounds_toArray, List.set_cons_zero, List.set_cons_succ, List.getElem_toArray, List.getElem_cons_succ, List.getElem_cons_zero])
        refine wpAnyH_take (i := 42) (v := undef) rfl (by kernel_rfl) (by kernel_rfl) (by kernel_rfl) (fun _ _ _ h => h) (Or.inr ⟨by rfl, rfl⟩) (by assumption) ?_
        (try simp only [Act.put, List.setIfInBounds_toArray, List.set_cons_zero, List.set_cons_succ, List.getElem_toArray, List.getElem_cons_succ, List.getElem_cons_zero])
        refine wpAnyH_take (i := 43) (v := undef) rfl (by kernel_rfl) (by kernel_rfl) (by kernel_rfl) (fun _ _ _ h => h) (Or.inr ⟨by rfl, rfl⟩) (by assumption) ?_
        (try simp only [Act.put, List.setIfInBounds_toArray, List.set_cons_zero, List.set_cons_succ, List.getElem_toArray, List.getElem_cons_succ, List.getElem_cons_zero])
        refine wpAnyH_take (i := 44) (v := ?_) rfl (by kernel_rfl) (by kernel_rfl) (by kernel_rfl) (fun _ _ _ h => h) (Or.inl ⟨by rfl, ?_⟩) (by assumption) ?_
        rotate_left
        · ((intro w hSw); (try dsimp only at hSw); (try simp only [List.getElem_toArray, List.getElem_cons_succ, List.getElem_cons_zero]); (go_simp); (try with_reducible rfl))
        (try simp only [Act.put, List.setIfInBounds_toArray, List.set_cons_zero, List.set_cons_succ, List.getElem_toArray, List.getElem_cons_succ, List.getElem_cons_zero])
        refine wpAnyH_take (i := 45) (v := ?_) rfl (by kernel_rfl) (by kernel_rfl) (by kernel_rfl) (fun _ _ _ h => h) (Or.inl ⟨by rfl, ?_⟩) (by assumption) ?_
        rotate_left
        · ((intro w hSw); (try dsimp only at hSw); (try simp only [List.getElem_toArray, List.getElem_cons_succ, List.getElem_cons_zero]); (go_simp); (try with_reducible rfl))
        (try simp only [Act.put, List.setIfInBounds_toArray, List.set_cons_zero, List.set_cons_succ, List.getElem_toArray, List.getElem_cons_succ, List.getElem_cons_zero])
        refine wpAnyH_done (by kernel_rfl) ?_ _
        refine NoPanic.normal ?_
        go_wp2_with fail
        go_meet
        exact ⟨rfl, hHeld.1⟩
    case rest =>
    obtain ⟨rfl, T2⟩ := hcut
    obtain ⟨d0, d1, d2, m0, m1, m2, v0⟩ := T2.st1.cells
    obtain ⟨d3, d4, d5, m3, m4, m5, v1⟩ := T2.st2.cells
    have HT2 := Lib.hid T2
    clear T2
    go_wp2_with fail
    obtain ⟨n1, n2, n3, l1, l2⟩ := HN.out
    have T3 := HT2.out.fgbg n1 n2 n3 l1 l2 (16777216 + R * 65536 + G * 256 + B) (16777216 + R * 65536 + G * 256 + B)
    clear d0 d1 d2 m0 m1 m2 v0 d3 d4 d5 m3 m4 m5 v1 HT2
    generalize hV : 16777216 + R * 65536 + G * 256 + B = V at *
    generalize ((wc.setCell ⟨p, 0, none⟩ (.int .i64 V)).setCell ⟨q, 1, none⟩ (.int .i64 V)) = X2 at *
    have T0c := T3
    have Cc0 : Hid (∀ (Y : World) (n : Nat), Y.heap.size = n → Three w Y w.heap.size p q ⟨f, g, a⟩ ⟨V, g, a⟩ ⟨f, V, a⟩ → Calls Tryd.prog 9 #[.agg #[.int .i64 f, .int .i64 g, .int .i64 a], .slice (some ⟨n, 0, none⟩) 5 5] (Y.alloc (.cells #[.int .i64 38, .int .i64 2, .int .i64 R, .int .i64 G, .int .i64 B] 3)) fun e w' => e = .returned (stV ⟨V, g, a⟩) ∧ Three w w' w.heap.size p q ⟨f, g, a⟩ ⟨V, g, a⟩ ⟨f, V, a⟩) := Lib.hid (fun Y n hn h3 => apply_three (f := f) (g := g) (a := a) (R := ⟨V, g, a⟩) [38, 2, R, G, B] w HT.out (by simp) (by intro z hz; simp at hz; unfold I64; omega) ((mk_fg2 HR.out R G B hrr hgg hbb).trans (by rw [hV])) Y n hn h3)
    have Dc0 : Hid (∀ (Y : World) (n : Nat), Y.heap.size = n → Three w Y.drew w.heap.size p q ⟨f, g, a⟩ ⟨V, g, a⟩ ⟨f, V, a⟩ → Calls Tryd.prog 9 #[.agg #[.int .i64 f, .int .i64 g, .int .i64 a], .slice (some ⟨n, 0, none⟩) 5 5] (Y.alloc (.cells #[.int .i64 38, .int .i64 2, .int .i64 R, .int .i64 G, .int .i64 B] 3)).drew fun e w' => e = .returned (stV ⟨V, g, a⟩) ∧ Three w w' w.heap.size p q ⟨f, g, a⟩ ⟨V, g, a⟩ ⟨f, V, a⟩) := Lib.hid (fun Y n hn h3 => apply_three_d (f := f) (g := g) (a := a) (R := ⟨V, g, a⟩) [38, 2, R, G, B] w HT.out (by simp) (by intro z hz; simp at hz; unfold I64; omega) ((mk_fg2 HR.out R G B hrr hgg hbb).trans (by rw [hV])) Y n hn h3)
    have ec0 := eq3_self (V) (g) (a)
    have Cc1 : Hid (∀ (Y : World) (n : Nat), Y.heap.size = n → Three w Y w.heap.size p q ⟨f, g, a⟩ ⟨V, g, a⟩ ⟨f, V, a⟩ → Calls Tryd.prog 9 #[.agg #[.int .i64 f, .int .i64 g, .int .i64 a], .slice (some ⟨n, 0, none⟩) 5 5] (Y.alloc (.cells #[.int .i64 48, .int .i64 2, .int .i64 R, .int .i64 G, .int .i64 B] 3)) fun e w' => e = .returned (stV ⟨f, V, a⟩) ∧ Three w w' w.heap.size p q ⟨f, g, a⟩ ⟨V, g, a⟩ ⟨f, V, a⟩) := Lib.hid (fun Y n hn h3 => apply_three (f := f) (g := g) (a := a) (R := ⟨f, V, a⟩) [48, 2, R, G, B] w HT.out (by simp) (by intro z hz; simp at hz; unfold I64; omega) ((mk_bg2 HR.out R G B hrr hgg hbb).trans (by rw [hV])) Y n hn h3)
    have Dc1 : Hid (∀ (Y : World) (n : Nat), Y.heap.size = n → Three w Y.drew w.heap.size p q ⟨f, g, a⟩ ⟨V, g, a⟩ ⟨f, V, a⟩ → Calls Tryd.prog 9 #[.agg #[.int .i64 f, .int .i64 g, .int .i64 a], .slice (some ⟨n, 0, none⟩) 5 5] (Y.alloc (.cells #[.int .i64 48, .int .i64 2, .int .i64 R, .int .i64 G, .int .i64 B] 3)).drew fun e w' => e = .returned (stV ⟨f, V, a⟩) ∧ Three w w' w.heap.size p q ⟨f, g, a⟩ ⟨V, g, a⟩ ⟨f, V, a⟩) := Lib.hid (fun Y n hn h3 => apply_three_d (f := f) (g := g) (a := a) (R := ⟨f, V, a⟩) [48, 2, R, G, B] w HT.out (by simp) (by intro z hz; simp at hz; unfold I64; omega) ((mk_bg2 HR.out R G B hrr hgg hbb).trans (by rw [hV])) Y n hn h3)
    have ec1 := eq3_self (f) (V) (a)
    have sXc : (Three w X2 w.heap.size p q ⟨f, g, a⟩ ⟨V, g, a⟩ ⟨f, V, a⟩ ∧ X2.cell? ⟨w.heap.size, 0, none⟩ = some (.int .i64 (f)) ∧ X2.cell? ⟨w.heap.size, 1, none⟩ = some (.int .i64 (g)) ∧ X2.cell? ⟨w.heap.size, 2, none⟩ = some (.int .i64 (a)) ∧ X2.cell? ⟨p, 0, none⟩ = some (.int .i64 (V)) ∧ X2.cell? ⟨p, 1, none⟩ = some (.int .i64 (g)) ∧ X2.cell? ⟨p, 2, none⟩ = some (.int .i64 (a)) ∧ X2.cell? ⟨q, 0, none⟩ = some (.int .i64 (f)) ∧ X2.cell? ⟨q, 1, none⟩ = some (.int .i64 (V)) ∧ X2.cell? ⟨q, 2, none⟩ = some (.int .i64 (a))) := sOf T0c
    have sDc : (Three w X2.drew w.heap.size p q ⟨f, g, a⟩ ⟨V, g, a⟩ ⟨f, V, a⟩ ∧ X2.drew.cell? ⟨w.heap.size, 0, none⟩ = some (.int .i64 (f)) ∧ X2.drew.cell? ⟨w.heap.size, 1, none⟩ = some (.int .i64 (g)) ∧ X2.drew.cell? ⟨w.heap.size, 2, none⟩ = some (.int .i64 (a)) ∧ X2.drew.cell? ⟨p, 0, none⟩ = some (.int .i64 (V)) ∧ X2.drew.cell? ⟨p, 1, none⟩ = some (.int .i64 (g)) ∧ X2.drew.cell? ⟨p, 2, none⟩ = some (.int .i64 (a)) ∧ X2.drew.cell? ⟨q, 0, none⟩ = some (.int .i64 (f)) ∧ X2.drew.cell? ⟨q, 1, none⟩ = some (.int .i64 (V)) ∧ X2.drew.cell? ⟨q, 2, none⟩ = some (.int .i64 (a))) := sOf T0c.drew
    obtain ⟨_, c0c, c1c, c2c, c3c, c4c, c5c, c6c, c7c, c8c⟩ := id sXc
    have c9c := T0c.st0.cells.lt; have cac := T0c.st1.cells.lt; have cbc := T0c.st2.cells.lt
    replace T0c := Lib.hid T0c
    go_region_held3 (fun X => (Three w X w.heap.size p q ⟨f, g, a⟩ ⟨V, g, a⟩ ⟨f, V, a⟩ ∧ X.cell? ⟨w.heap.size, 0, none⟩ = some (.int .i64 (f)) ∧ X.cell? ⟨w.heap.size, 1, none⟩ = some (.int .i64 (g)) ∧ X.cell? ⟨w.heap.size, 2, none⟩ = some (.int .i64 (a)) ∧ X.cell? ⟨p, 0, none⟩ = some (.int .i64 (V)) ∧ X.cell? ⟨p, 1, none⟩ = some (.int .i64 (g)) ∧ X.cell? ⟨p, 2, none⟩ = some (.int .i64 (a)) ∧ X.cell? ⟨q, 0, none⟩ = some (.int .i64 (f)) ∧ X.cell? ⟨q, 1, none⟩ = some (.int .i64 (V)) ∧ X.cell? ⟨q, 2, none⟩ = some (.int .i64 (a)))) (with_reducible (first | exact sXc | exact sDc | assumption | exact sAl (by assumption) | exact sDr (sAl sXc) | exact sDr (by assumption)))
      (first
        | ((go_at_call 9); (with_reducible refine (Dc0.out _ _ ?hnDc0 ?htDc0).mono ?_); (case hnDc0 => rfl); (case htDc0 => first | exact sXc.1 | exact sDc.1 | (apply And.left; assumption)); rintro e vc0 ⟨rfl, Tq⟩; have sqc0 : (Three w vc0 w.heap.size p q ⟨f, g, a⟩ ⟨V, g, a⟩ ⟨f, V, a⟩ ∧ vc0.cell? ⟨w.heap.size, 0, none⟩ = some (.int .i64 (f)) ∧ vc0.cell? ⟨w.heap.size, 1, none⟩ = some (.int .i64 (g)) ∧ vc0.cell? ⟨w.heap.size, 2, none⟩ = some (.int .i64 (a)) ∧ vc0.cell? ⟨p, 0, none⟩ = some (.int .i64 (V)) ∧ vc0.cell? ⟨p, 1, none⟩ = some (.int .i64 (g)) ∧ vc0.cell? ⟨p, 2, none⟩ = some (.int .i64 (a)) ∧ vc0.cell? ⟨q, 0, none⟩ = some (.int .i64 (f)) ∧ vc0.cell? ⟨q, 1, none⟩ = some (.int .i64 (V)) ∧ vc0.cell? ⟨q, 2, none⟩ = some (.int .i64 (a))) := sOf Tq; clear Tq)
        | ((go_at_call 9); (with_reducible refine (Cc0.out _ _ ?hnCc0 ?htCc0).mono ?_); (case hnCc0 => rfl); (case htCc0 => first | exact sXc.1 | exact sDc.1 | (apply And.left; assumption)); rintro e vc0 ⟨rfl, Tq⟩; have sqc0 : (Three w vc0 w.heap.size p q ⟨f, g, a⟩ ⟨V, g, a⟩ ⟨f, V, a⟩ ∧ vc0.cell? ⟨w.heap.size, 0, none⟩ = some (.int .i64 (f)) ∧ vc0.cell? ⟨w.heap.size, 1, none⟩ = some (.int .i64 (g)) ∧ vc0.cell? ⟨w.heap.size, 2, none⟩ = some (.int .i64 (a)) ∧ vc0.cell? ⟨p, 0, none⟩ = some (.int .i64 (V)) ∧ vc0.cell? ⟨p, 1, none⟩ = some (.int .i64 (g)) ∧ vc0.cell? ⟨p, 2, none⟩ = some (.int .i64 (a)) ∧ vc0.cell? ⟨q, 0, none⟩ = some (.int .i64 (f)) ∧ vc0.cell? ⟨q, 1, none⟩ = some (.int .i64 (V)) ∧ vc0.cell? ⟨q, 2, none⟩ = some (.int .i64 (a))) := sOf Tq; clear Tq)
        | ((go_at_call 9); (with_reducible refine (Dc1.out _ _ ?hnDc1 ?htDc1).mono ?_); (case hnDc1 => rfl); (case htDc1 => first | exact sXc.1 | exact sDc.1 | (apply And.left; assumption)); rintro e vc1 ⟨rfl, Tq⟩; have sqc1 : (Three w vc1 w.heap.size p q ⟨f, g, a⟩ ⟨V, g, a⟩ ⟨f, V, a⟩ ∧ vc1.cell? ⟨w.heap.size, 0, none⟩ = some (.int .i64 (f)) ∧ vc1.cell? ⟨w.heap.size, 1, none⟩ = some (.int .i64 (g)) ∧ vc1.cell? ⟨w.heap.size, 2, none⟩ = some (.int .i64 (a)) ∧ vc1.cell? ⟨p, 0, none⟩ = some (.int .i64 (V)) ∧ vc1.cell? ⟨p, 1, none⟩ = some (.int .i64 (g)) ∧ vc1.cell? ⟨p, 2, none⟩ = some (.int .i64 (a)) ∧ vc1.cell? ⟨q, 0, none⟩ = some (.int .i64 (f)) ∧ vc1.cell? ⟨q, 1, none⟩ = some (.int .i64 (V)) ∧ vc1.cell? ⟨q, 2, none⟩ = some (.int .i64 (a))) := sOf Tq; clear Tq)
        | ((go_at_call 9); (with_reducible refine (Cc1.out _ _ ?hnCc1 ?htCc1).mono ?_); (case hnCc1 => rfl); (case htCc1 => first | exact sXc.1 | exact sDc.1 | (apply And.left; assumption)); rintro e vc1 ⟨rfl, Tq⟩; have sqc1 : (Three w vc1 w.heap.size p q ⟨f, g, a⟩ ⟨V, g, a⟩ ⟨f, V, a⟩ ∧ vc1.cell? ⟨w.heap.size, 0, none⟩ = some (.int .i64 (f)) ∧ vc1.cell? ⟨w.heap.size, 1, none⟩ = some (.int .i64 (g)) ∧ vc1.cell? ⟨w.heap.size, 2, none⟩ = some (.int .i64 (a)) ∧ vc1.cell? ⟨p, 0, none⟩ = some (.int .i64 (V)) ∧ vc1.cell? ⟨p, 1, none⟩ = some (.int .i64 (g)) ∧ vc1.cell? ⟨p, 2, none⟩ = some (.int .i64 (a)) ∧ vc1.cell? ⟨q, 0, none⟩ = some (.int .i64 (f)) ∧ vc1.cell? ⟨q, 1, none⟩ = some (.int .i64 (V)) ∧ vc1.cell? ⟨q, 2, none⟩ = some (.int .i64 (a))) := sOf Tq; clear Tq))
    have HT4 := Lib.hid sqc1.1
    clear sqc0 sqc1 sXc sDc c0c c1c c2c c3c c4c c5c c6c c7c c8c c9c cac cbc Cc0 Cc1 Dc0 Dc1 T0c T3
    generalize vc1 = vcz at *
    obtain ⟨d0, d1, d2, m0, m1, m2, v0⟩ := HT4.out.st1.cells
    obtain ⟨d3, d4, d5, m3, m4, m5, v1⟩ := HT4.out.st2.cells
    go_wp2_with fail
    have T5 := HT4.out.fgbg n1 n2 n3 l1 l2 0 0
    clear d0 d1 d2 m0 m1 m2 v0 d3 d4 d5 m3 m4 m5 v1 HT4
    generalize ((vcz.setCell ⟨p, 0, none⟩ (.int .i64 0)).setCell ⟨q, 1, none⟩ (.int .i64 0)) = X3 at *
    have T0d := T5
    have Cd0 : Hid (∀ (Y : World) (n : Nat), Y.heap.size = n → Three w Y w.heap.size p q ⟨f, g, a⟩ ⟨0, g, a⟩ ⟨f, 0, a⟩ → Calls Tryd.prog 9 #[.agg #[.int .i64 f, .int .i64 g, .int .i64 a], .slice (some ⟨n, 0, none⟩) 1 1] (Y.alloc (.cells #[.int .i64 39] 3)) fun e w' => e = .returned (stV ⟨0, g, a⟩) ∧ Three w w' w.heap.size p q ⟨f, g, a⟩ ⟨0, g, a⟩ ⟨f, 0, a⟩) := Lib.hid (fun Y n hn h3 => apply_three (f := f) (g := g) (a := a) (R := ⟨0, g, a⟩) [39] w HT.out (by simp) (by intro z hz; simp at hz; unfold I64; omega) (mk_fg0 HR.out) Y n hn h3)
    have Dd0 : Hid (∀ (Y : World) (n : Nat), Y.heap.size = n → Three w Y.drew w.heap.size p q ⟨f, g, a⟩ ⟨0, g, a⟩ ⟨f, 0, a⟩ → Calls Tryd.prog 9 #[.agg #[.int .i64 f, .int .i64 g, .int .i64 a], .slice (some ⟨n, 0, none⟩) 1 1] (Y.alloc (.cells #[.int .i64 39] 3)).drew fun e w' => e = .returned (stV ⟨0, g, a⟩) ∧ Three w w' w.heap.size p q ⟨f, g, a⟩ ⟨0, g, a⟩ ⟨f, 0, a⟩) := Lib.hid (fun Y n hn h3 => apply_three_d (f := f) (g := g) (a := a) (R := ⟨0, g, a⟩) [39] w HT.out (by simp) (by intro z hz; simp at hz; unfold I64; omega) (mk_fg0 HR.out) Y n hn h3)
    have ed0 := eq3_self (0) (g) (a)
    have Cd1 : Hid (∀ (Y : World) (n : Nat), Y.heap.size = n → Three w Y w.heap.size p q ⟨f, g, a⟩ ⟨0, g, a⟩ ⟨f, 0, a⟩ → Calls Tryd.prog 9 #[.agg #[.int .i64 f, .int .i64 g, .int .i64 a], .slice (some ⟨n, 0, none⟩) 1 1] (Y.alloc (.cells #[.int .i64 49] 3)) fun e w' => e = .returned (stV ⟨f, 0, a⟩) ∧ Three w w' w.heap.size p q ⟨f, g, a⟩ ⟨0, g, a⟩ ⟨f, 0, a⟩) := Lib.hid (fun Y n hn h3 => apply_three (f := f) (g := g) (a := a) (R := ⟨f, 0, a⟩) [49] w HT.out (by simp) (by intro z hz; simp at hz; unfold I64; omega) (mk_bg0 HR.out) Y n hn h3)
    have Dd1 : Hid (∀ (Y : World) (n : Nat), Y.heap.size = n → Three w Y.drew w.heap.size p q ⟨f, g, a⟩ ⟨0, g, a⟩ ⟨f, 0, a⟩ → Calls Tryd.prog 9 #[.agg #[.int .i64 f, .int .i64 g, .int .i64 a], .slice (some ⟨n, 0, none⟩) 1 1] (Y.alloc (.cells #[.int .i64 49] 3)).drew fun e w' => e = .returned (stV ⟨f, 0, a⟩) ∧ Three w w' w.heap.size p q ⟨f, g, a⟩ ⟨0, g, a⟩ ⟨f, 0, a⟩) := Lib.hid (fun Y n hn h3 => apply_three_d (f := f) (g := g) (a := a) (R := ⟨f, 0, a⟩) [49] w HT.out (by simp) (by intro z hz; simp at hz; unfold I64; omega) (mk_bg0 HR.out) Y n hn h3)
    have ed1 := eq3_self (f) (0) (a)
    have Cd2 : Hid (∀ (Y : World) (n : Nat), Y.heap.size = n → Three w Y w.heap.size p q ⟨f, g, a⟩ ⟨0, g, a⟩ ⟨f, 0, a⟩ → Calls Tryd.prog 9 #[.agg #[.int .i64 f, .int .i64 g, .int .i64 a], .slice (some ⟨n, 0, none⟩) 1 1] (Y.alloc (.cells #[.int .i64 0] 3)) fun e w' => e = .returned (stV ⟨0, 0, 0⟩) ∧ Three w w' w.heap.size p q ⟨f, g, a⟩ ⟨0, g, a⟩ ⟨f, 0, a⟩) := Lib.hid (fun Y n hn h3 => apply_three (f := f) (g := g) (a := a) (R := ⟨0, 0, 0⟩) [0] w HT.out (by simp) (by intro z hz; simp at hz; unfold I64; omega) (mk_zero HR.out) Y n hn h3)
    have Dd2 : Hid (∀ (Y : World) (n : Nat), Y.heap.size = n → Three w Y.drew w.heap.size p q ⟨f, g, a⟩ ⟨0, g, a⟩ ⟨f, 0, a⟩ → Calls Tryd.prog 9 #[.agg #[.int .i64 f, .int .i64 g, .int .i64 a], .slice (some ⟨n, 0, none⟩) 1 1] (Y.alloc (.cells #[.int .i64 0] 3)).drew fun e w' => e = .returned (stV ⟨0, 0, 0⟩) ∧ Three w w' w.heap.size p q ⟨f, g, a⟩ ⟨0, g, a⟩ ⟨f, 0, a⟩) := Lib.hid (fun Y n hn h3 => apply_three_d (f := f) (g := g) (a := a) (R := ⟨0, 0, 0⟩) [0] w HT.out (by simp) (by intro z hz; simp at hz; unfold I64; omega) (mk_zero HR.out) Y n hn h3)
    have ed2 := eq3_self (0) (0) (0)
    have sXd : (Three w X3 w.heap.size p q ⟨f, g, a⟩ ⟨0, g, a⟩ ⟨f, 0, a⟩ ∧ X3.cell? ⟨w.heap.size, 0, none⟩ = some (.int .i64 (f)) ∧ X3.cell? ⟨w.heap.size, 1, none⟩ = some (.int .i64 (g)) ∧ X3.cell? ⟨w.heap.size, 2, none⟩ = some (.int .i64 (a)) ∧ X3.cell? ⟨p, 0, none⟩ = some (.int .i64 (0)) ∧ X3.cell? ⟨p, 1, none⟩ = some (.int .i64 (g)) ∧ X3.cell? ⟨p, 2, none⟩ = some (.int .i64 (a)) ∧ X3.cell? ⟨q, 0, none⟩ = some (.int .i64 (f)) ∧ X3.cell? ⟨q, 1, none⟩ = some (.int .i64 (0)) ∧ X3.cell? ⟨q, 2, none⟩ = some (.int .i64 (a))) := sOf T0d
    have sDd : (Three w X3.drew w.heap.size p q ⟨f, g, a⟩ ⟨0, g, a⟩ ⟨f, 0, a⟩ ∧ X3.drew.cell? ⟨w.heap.size, 0, none⟩ = some (.int .i64 (f)) ∧ X3.drew.cell? ⟨w.heap.size, 1, none⟩ = some (.int .i64 (g)) ∧ X3.drew.cell? ⟨w.heap.size, 2, none⟩ = some (.int .i64 (a)) ∧ X3.drew.cell? ⟨p, 0, none⟩ = some (.int .i64 (0)) ∧ X3.drew.cell? ⟨p, 1, none⟩ = some (.int .i64 (g)) ∧ X3.drew.cell? ⟨p, 2, none⟩ = some (.int .i64 (a)) ∧ X3.drew.cell? ⟨q, 0, none⟩ = some (.int .i64 (f)) ∧ X3.drew.cell? ⟨q, 1, none⟩ = some (.int .i64 (0)) ∧ X3.drew.cell? ⟨q, 2, none⟩ = some (.int .i64 (a))) := sOf T0d.drew
    obtain ⟨_, c0d, c1d, c2d, c3d, c4d, c5d, c6d, c7d, c8d⟩ := id sXd
    have c9d := T0d.st0.cells.lt; have cad := T0d.st1.cells.lt; have cbd := T0d.st2.cells.lt
    replace T0d := Lib.hid T0d
    go_region_held3 (fun X => (Three w X w.heap.size p q ⟨f, g, a⟩ ⟨0, g, a⟩ ⟨f, 0, a⟩ ∧ X.cell? ⟨w.heap.size, 0, none⟩ = some (.int .i64 (f)) ∧ X.cell? ⟨w.heap.size, 1, none⟩ = some (.int .i64 (g)) ∧ X.cell? ⟨w.heap.size, 2, none⟩ = some (.int .i64 (a)) ∧ X.cell? ⟨p, 0, none⟩ = some (.int .i64 (0)) ∧ X.cell? ⟨p, 1, none⟩ = some (.int .i64 (g)) ∧ X.cell? ⟨p, 2, none⟩ = some (.int .i64 (a)) ∧ X.cell? ⟨q, 0, none⟩ = some (.int .i64 (f)) ∧ X.cell? ⟨q, 1, none⟩ = some (.int .i64 (0)) ∧ X.cell? ⟨q, 2, none⟩ = some (.int .i64 (a)))) (with_reducible (first | exact sXd | exact sDd | assumption | exact sAl (by assumption) | exact sDr (sAl sXd) | exact sDr (by assumption)))
      (first
        | ((go_at_call 9); (with_reducible refine (Dd0.out _ _ ?hnDd0 ?htDd0).mono ?_); (case hnDd0 => rfl); (case htDd0 => first | exact sXd.1 | exact sDd.1 | (apply And.left; assumption)); rintro e vd0 ⟨rfl, Tq⟩; have sqd0 : (Three w vd0 w.heap.size p q ⟨f, g, a⟩ ⟨0, g, a⟩ ⟨f, 0, a⟩ ∧ vd0.cell? ⟨w.heap.size, 0, none⟩ = some (.int .i64 (f)) ∧ vd0.cell? ⟨w.heap.size, 1, none⟩ = some (.int .i64 (g)) ∧ vd0.cell? ⟨w.heap.size, 2, none⟩ = some (.int .i64 (a)) ∧ vd0.cell? ⟨p, 0, none⟩ = some (.int .i64 (0)) ∧ vd0.cell? ⟨p, 1, none⟩ = some (.int .i64 (g)) ∧ vd0.cell? ⟨p, 2, none⟩ = some (.int .i64 (a)) ∧ vd0.cell? ⟨q, 0, none⟩ = some (.int .i64 (f)) ∧ vd0.cell? ⟨q, 1, none⟩ = some (.int .i64 (0)) ∧ vd0.cell? ⟨q, 2, none⟩ = some (.int .i64 (a))) := sOf Tq; clear Tq)
        | ((go_at_call 9); (with_reducible refine (Cd0.out _ _ ?hnCd0 ?htCd0).mono ?_); (case hnCd0 => rfl); (case htCd0 => first | exact sXd.1 | exact sDd.1 | (apply And.left; assumption)); rintro e vd0 ⟨rfl, Tq⟩; have sqd0 : (Three w vd0 w.heap.size p q ⟨f, g, a⟩ ⟨0, g, a⟩ ⟨f, 0, a⟩ ∧ vd0.cell? ⟨w.heap.size, 0, none⟩ = some (.int .i64 (f)) ∧ vd0.cell? ⟨w.heap.size, 1, none⟩ = some (.int .i64 (g)) ∧ vd0.cell? ⟨w.heap.size, 2, none⟩ = some (.int .i64 (a)) ∧ vd0.cell? ⟨p, 0, none⟩ = some (.int .i64 (0)) ∧ vd0.cell? ⟨p, 1, none⟩ = some (.int .i64 (g)) ∧ vd0.cell? ⟨p, 2, none⟩ = some (.int .i64 (a)) ∧ vd0.cell? ⟨q, 0, none⟩ = some (.int .i64 (f)) ∧ vd0.cell? ⟨q, 1, none⟩ = some (.int .i64 (0)) ∧ vd0.cell? ⟨q, 2, none⟩ = some (.int .i64 (a))) := sOf Tq; clear Tq)
        | ((go_at_call 9); (with_reducible refine (Dd1.out _ _ ?hnDd1 ?htDd1).mono ?_); (case hnDd1 => rfl); (case htDd1 => first | exact sXd.1 | exact sDd.1 | (apply And.left; assumption)); rintro e vd1 ⟨rfl, Tq⟩; have sqd1 : (Three w vd1 w.heap.size p q ⟨f, g, a⟩ ⟨0, g, a⟩ ⟨f, 0, a⟩ ∧ vd1.cell? ⟨w.heap.size, 0, none⟩ = some (.int .i64 (f)) ∧ vd1.cell? ⟨w.heap.size, 1, none⟩ = some (.int .i64 (g)) ∧ vd1.cell? ⟨w.heap.size, 2, none⟩ = some (.int .i64 (a)) ∧ vd1.cell? ⟨p, 0, none⟩ = some (.int .i64 (0)) ∧ vd1.cell? ⟨p, 1, none⟩ = some (.int .i64 (g)) ∧ vd1.cell? ⟨p, 2, none⟩ = some (.int .i64 (a)) ∧ vd1.cell? ⟨q, 0, none⟩ = some (.int .i64 (f)) ∧ vd1.cell? ⟨q, 1, none⟩ = some (.int .i64 (0)) ∧ vd1.cell? ⟨q, 2, none⟩ = some (.int .i64 (a))) := sOf Tq; clear Tq)
        | ((go_at_call 9); (with_reducible refine (Cd1.out _ _ ?hnCd1 ?htCd1).mono ?_); (case hnCd1 => rfl); (case htCd1 => first | exact sXd.1 | exact sDd.1 | (apply And.left; assumption)); rintro e vd1 ⟨rfl, Tq⟩; have sqd1 : (Three w vd1 w.heap.size p q ⟨f, g, a⟩ ⟨0, g, a⟩ ⟨f, 0, a⟩ ∧ vd1.cell? ⟨w.heap.size, 0, none⟩ = some (.int .i64 (f)) ∧ vd1.cell? ⟨w.heap.size, 1, none⟩ = some (.int .i64 (g)) ∧ vd1.cell? ⟨w.heap.size, 2, none⟩ = some (.int .i64 (a)) ∧ vd1.cell? ⟨p, 0, none⟩ = some (.int .i64 (0)) ∧ vd1.cell? ⟨p, 1, none⟩ = some (.int .i64 (g)) ∧ vd1.cell? ⟨p, 2, none⟩ = some (.int .i64 (a)) ∧ vd1.cell? ⟨q, 0, none⟩ = some (.int .i64 (f)) ∧ vd1.cell? ⟨q, 1, none⟩ = some (.int .i64 (0)) ∧ vd1.cell? ⟨q, 2, none⟩ = some (.int .i64 (a))) := sOf Tq; clear Tq)
        | ((go_at_call 9); (with_reducible refine (Dd2.out _ _ ?hnDd2 ?htDd2).mono ?_); (case hnDd2 => rfl); (case htDd2 => first | exact sXd.1 | exact sDd.1 | (apply And.left; assumption)); rintro e vd2 ⟨rfl, Tq⟩; have sqd2 : (Three w vd2 w.heap.size p q ⟨f, g, a⟩ ⟨0, g, a⟩ ⟨f, 0, a⟩ ∧ vd2.cell? ⟨w.heap.size, 0, none⟩ = some (.int .i64 (f)) ∧ vd2.cell? ⟨w.heap.size, 1, none⟩ = some (.int .i64 (g)) ∧ vd2.cell? ⟨w.heap.size, 2, none⟩ = some (.int .i64 (a)) ∧ vd2.cell? ⟨p, 0, none⟩ = some (.int .i64 (0)) ∧ vd2.cell? ⟨p, 1, none⟩ = some (.int .i64 (g)) ∧ vd2.cell? ⟨p, 2, none⟩ = some (.int .i64 (a)) ∧ vd2.cell? ⟨q, 0, none⟩ = some (.int .i64 (f)) ∧ vd2.cell? ⟨q, 1, none⟩ = some (.int .i64 (0)) ∧ vd2.cell? ⟨q, 2, none⟩ = some (.int .i64 (a))) := sOf Tq; clear Tq)
        | ((go_at_call 9); (with_reducible refine (Cd2.out _ _ ?hnCd2 ?htCd2).mono ?_); (case hnCd2 => rfl); (case htCd2 => first | exact sXd.1 | exact sDd.1 | (apply And.left; assumption)); rintro e vd2 ⟨rfl, Tq⟩; have sqd2 : (Three w vd2 w.heap.size p q ⟨f, g, a⟩ ⟨0, g, a⟩ ⟨f, 0, a⟩ ∧ vd2.cell? ⟨w.heap.size, 0, none⟩ = some (.int .i64 (f)) ∧ vd2.cell? ⟨w.heap.size, 1, none⟩ = some (.int .i64 (g)) ∧ vd2.cell? ⟨w.heap.size, 2, none⟩ = some (.int .i64 (a)) ∧ vd2.cell? ⟨p, 0, none⟩ = some (.int .i64 (0)) ∧ vd2.cell? ⟨p, 1, none⟩ = some (.int .i64 (g)) ∧ vd2.cell? ⟨p, 2, none⟩ = some (.int .i64 (a)) ∧ vd2.cell? ⟨q, 0, none⟩ = some (.int .i64 (f)) ∧ vd2.cell? ⟨q, 1, none⟩ = some (.int .i64 (0)) ∧ vd2.cell? ⟨q, 2, none⟩ = some (.int .i64 (a))) := sOf Tq; clear Tq))
    have HT6 := Lib.hid sqd2.1
    go_wp2_with fail
    go_ret
    exact ⟨rfl, HT6.out.bel⟩
  · have hr : sg.right ⟨f, g, a⟩ = false := by simpa using hr
    rw [hr]
    have HR := Lib.hid hr
    clear hr
    go_wp2_with fail
    refine (apply_lit f g a [1] _ w2 rfl (HT.out.below HBL2.out h2) (by simp) (by intro z hz; simp at hz; unfold I64; omega)).mono ?_
    rintro e w3 ⟨rfl, hb⟩
    rw [mk_wrong HR.out]
    have q := eq3_self 0 0 1
    have HB3 := Lib.hid (HBL2.out.trans (hb.mono HBL2.out.size))
    clear hb
    go_wp2_with fail
    go_ret
    exact ⟨rfl, HB3.out⟩
end Go.Proofs.YtkkgelobfefncaaDoor
