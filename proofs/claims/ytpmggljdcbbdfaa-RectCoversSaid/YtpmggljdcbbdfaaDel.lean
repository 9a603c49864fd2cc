/- What slices.IndexFunc and slices.DeleteFunc do with rectangles and Empty; what package rect's filled does. -/
import Derived.Test.YtpmggljdcbbdfaaCut
import Derived.Deep.LoopGhost
import Derived.Lib.SliceRun
namespace Go.Proofs.Ytpmggljdcbbdfaa
open Go.RowKit rm
attribute [local go_sem ↓] Go.wp_at_zero Go.wp_at_succ
attribute [local go_sem ↓ 10000] run_mn run_mx

/-- has a rectangle no cells? -/
def pz (r : RR) : Bool := decide (clean r = zero)
theorem empty_pz (x y ww h : Int) (w : World) :
    Calls Try.prog 18 #[(.agg #[.int .i64 x, .int .i64 y, .int .i64 ww, .int .i64 h])] w fun e w' => e = .returned (.bool (pz ⟨x, y, ww, h⟩)) ∧ Below w.heap.size w w' :=
  (empty_any x y ww h w).mono fun e w' ⟨a, b, c, d, he, hc, hb⟩ => ⟨by
    rw [he]; refine ret_bool ?_
    unfold pz eq4
    rw [show clean ⟨x, y, ww, h⟩ = ⟨a, b, c, d⟩ from hc.symm]
    simp [zero], hb⟩

/-- the four cells of a rectangle in a row -/
structure Quad (w : World) (g o : Nat) (r : RR) : Prop where
  k0 : w.cell? ⟨g, o, none⟩ = some (.int .i64 r.x)
  k1 : w.cell? ⟨g, o + 1, none⟩ = some (.int .i64 r.y)
  k2 : w.cell? ⟨g, o + 2, none⟩ = some (.int .i64 r.w)
  k3 : w.cell? ⟨g, o + 3, none⟩ = some (.int .i64 r.h)
  f0 : w.frozen? ⟨g, o, none⟩ = false
  f1 : w.frozen? ⟨g, o + 1, none⟩ = false
  f2 : w.frozen? ⟨g, o + 2, none⟩ = false
  f3 : w.frozen? ⟨g, o + 3, none⟩ = false
/-- a row of rectangles in block g -/
def RowL (w : World) (g : Nat) (D : List RR) : Prop := ∀ t r, D[t]? = some r → Quad w g (t * 4) r
theorem Quad.keep {w w' : World} {g o : Nat} {r : RR} (H : Quad w g o r) (h : w'.heap[g]? = w.heap[g]?) : Quad w' g o r := by
  have hc : ∀ i, w'.cell? ⟨g, i, none⟩ = w.cell? ⟨g, i, none⟩ := fun i => World.cell?_of_block h
  have hf : ∀ i, w'.frozen? ⟨g, i, none⟩ = w.frozen? ⟨g, i, none⟩ := fun i => World.frozen?_of_block h
  exact ⟨(hc _).trans H.k0, (hc _).trans H.k1, (hc _).trans H.k2, (hc _).trans H.k3, (hf _).trans H.f0, (hf _).trans H.f1, (hf _).trans H.f2, (hf _).trans H.f3⟩
theorem RowL.keep {w w' : World} {g : Nat} {D : List RR} (H : RowL w g D) (h : w'.heap[g]? = w.heap[g]?) : RowL w' g D := fun t r ht => (H t r ht).keep h
theorem RowL.below {w w' : World} {g : Nat} {D : List RR} (H : RowL w g D) {B : Nat} (hb : Below B w w') (hg : g < B) : RowL w' g D := H.keep (hb.block g hg)

/-- where IndexFunc finds the first empty one -/
def Found (D : List RR) (r : Int) : Prop := (r = -1 ∧ ∀ (t : Nat) q, D[t]? = some q → pz q = false) ∨ ∃ k : Nat, r = k ∧ (∀ (t : Nat) q, t < k → D[t]? = some q → pz q = false) ∧ ∃ q, D[k]? = some q ∧ pz q = true

set_option maxHeartbeats 1600000 in
theorem index_any (g cap : Nat) (D : List RR) (w : World) (hD : RowL w g D) (hg : g < w.heap.size) (hcap : D.length ≤ cap) (hlen : D.length ≤ 65536) :
    Calls Try.prog 75 #[.slice (some ⟨g, 0, none⟩) D.length cap, .func (.func 18) #[] #[]] w fun e w' =>
      ∃ r : Int, e = .returned (.int .i64 r) ∧ Found D r ∧ Below w.heap.size w w' := by
  generalize hn : D.length = n at *
  have HN := Lib.hid hn; clear hn
  have HD := Lib.hid hD; clear hD
  go_enter Try.func75, Try.ntmps75
  go_wp2_with fail
  go_loopg [8] n (fun gg i wr => ∃ k : Nat, k ≤ n ∧ n - k ≤ gg ∧ i = .int .i64 k ∧ (Hid (∀ (t : Nat) q, t < k → D[t]? = some q → pz q = false)) ∧ Below w.heap.size w wr)
  case atStart => exact ⟨0, Nat.zero_le _, by omega, rfl, Lib.hid (fun t q ht => absurd ht (by omega)), Below.refl _ _⟩
  case round =>
    obtain ⟨k, hk, hgg, rfl, hne, hbel⟩ := hrel
    by_cases hlt : k < n
    · obtain ⟨r, hr⟩ : ∃ r, D[k]? = some r := ⟨_, List.getElem?_eq_getElem (by rw [HN.out]; exact hlt)⟩
      have HR := Lib.hid hr; clear hr
      have hq := (HD.out k r HR.out).keep (hbel.block g hg)
      obtain ⟨rx, ry, rw', rh⟩ := r
      obtain ⟨k0, k1, k2, k3, f0, f1, f2, f3⟩ := hq
      dsimp only at k0 k1 k2 k3
      go_wp2_with fail
      have hpz : ∃ bz, bz = pz ⟨rx, ry, rw', rh⟩ := ⟨_, rfl⟩
      obtain ⟨bz, hbz⟩ := hpz
      refine (empty_pz _ _ _ _ _).mono ?_
      rintro e w1 ⟨rfl, hb1⟩
      rw [← hbz]
      have HB := Lib.hid hbz; clear hbz
      have hb2 := hbel.trans (hb1.mono hbel.size)
      clear k0 k1 k2 k3 f0 f1 f2 f3 hbel hb1
      cases bz
      · go_wp2_with fail
        go_roundg (n - (k + 1))
        case measure => omega
        case rel =>
          refine ⟨k + 1, by omega, Nat.le_refl _, by go_num, Lib.hid (fun t q ht hq => ?_), hb2⟩
          rcases Nat.lt_or_ge t k with h | h
          · exact hne.out t q h hq
          · obtain rfl : t = k := by omega
            rw [HR.out] at hq
            cases hq
            exact HB.out.symm
      · go_wp2_with fail
        go_ret
        exact ⟨k, rfl, .inr ⟨k, rfl, hne.out, _, HR.out, HB.out.symm⟩, hb2⟩
    · go_wp2_with fail
      go_ret
      obtain rfl : k = n := by omega
      refine ⟨-1, rfl, .inl ⟨rfl, fun t q hq => hne.out t q ?_ hq⟩, hbel⟩
      have := (List.getElem?_eq_some_iff.1 hq).1
      rw [HN.out] at this; exact this

/-! ### worlds that differ from an elder one in one block g, and in what is new -/
theorem gb_below {a w w1 : World} {g : Nat} (h : a.grownBy w (some g)) (hb : Below w.heap.size w w1) : a.grownBy w1 (some g) :=
  ⟨hb.os.trans h.os, hb.tape.trans h.tape, hb.output.trans h.output, Nat.le_trans h.size hb.size, fun i hi hn => (hb.block i (Nat.lt_of_lt_of_le hi h.size)).trans (h.block i hi hn)⟩
theorem gb_alloc {a w : World} {row : Option Nat} (h : a.grownBy w row) (o : Obj) : a.grownBy (w.alloc o) row :=
  ⟨h.os, h.tape, h.output, Nat.le_trans h.size (by simp), fun i hi hne => (Below.heap_alloc w o i (Nat.lt_of_lt_of_le hi h.size)).trans (h.block i hi hne)⟩
theorem gb_setCell {a w : World} {g : Nat} (h : a.grownBy w (some g)) {p : Addr} (hp : p.block = g ∨ a.heap.size ≤ p.block) (u : Value) : a.grownBy (w.setCell p u) (some g) :=
  ⟨h.os, h.tape, h.output, by simpa [World.setCell] using h.size, fun i hi hne => (Below.heap_setCell w p u i (by
    rintro rfl
    rcases hp with hp | hp
    · exact hne (by rw [hp])
    · omega)).trans (h.block i hi hne)⟩
theorem gb_setCells {a : World} {g : Nat} : ∀ (vs : List Value) (o : Nat) (w : World), a.grownBy w (some g) → a.grownBy (w.setCells g o vs) (some g)
  | [], _, _, h => h
  | v :: r, o, w, h => by rw [World.setCells]; exact gb_setCells r (o + 1) _ (gb_setCell h (p := ⟨g, o, none⟩) (.inl rfl) v)
theorem below_of_gb {a w : World} {g : Nat} (h : a.grownBy w (some g)) {B : Nat} (hB : B ≤ a.heap.size) (hg : B ≤ g) : Below B a w :=
  ⟨h.os, h.tape, h.output, h.size, fun k hk => h.block k (by omega) (by intro e; cases e; omega)⟩

/-- a rectangle is stored into a row -/
theorem Quad.store {w : World} {g o : Nat} {r0 : RR} (H : Quad w g o r0) (r : RR) : Quad ((((w.setCell ⟨g, o, none⟩ (.int .i64 r.x)).setCell ⟨g, o + 1, none⟩ (.int .i64 r.y)).setCell ⟨g, o + 2, none⟩ (.int .i64 r.w)).setCell ⟨g, o + 3, none⟩ (.int .i64 r.h)) g o r := by
  obtain ⟨k0, k1, k2, k3, f0, f1, f2, f3⟩ := H
  constructor <;> go_simp
theorem Quad.store_other {w : World} {g o o' : Nat} {r0 : RR} (H : Quad w g o r0) (hne : o + 4 ≤ o' ∨ o' + 4 ≤ o) (r : RR) : Quad ((((w.setCell ⟨g, o', none⟩ (.int .i64 r.x)).setCell ⟨g, o' + 1, none⟩ (.int .i64 r.y)).setCell ⟨g, o' + 2, none⟩ (.int .i64 r.w)).setCell ⟨g, o' + 3, none⟩ (.int .i64 r.h)) g o r0 := by
  obtain ⟨k0, k1, k2, k3, f0, f1, f2, f3⟩ := H
  have e : ∀ c c', c < 4 → c' < 4 → (⟨g, o + c, none⟩ : Addr) ≠ ⟨g, o' + c', none⟩ := fun c c' h1 h2 he => by
    have : o + c = o' + c' := congrArg Addr.off he
    omega
  have hc : ∀ c, c < 4 → ((((w.setCell ⟨g, o', none⟩ (.int .i64 r.x)).setCell ⟨g, o' + 1, none⟩ (.int .i64 r.y)).setCell ⟨g, o' + 2, none⟩ (.int .i64 r.w)).setCell ⟨g, o' + 3, none⟩ (.int .i64 r.h)).cell? ⟨g, o + c, none⟩ = w.cell? ⟨g, o + c, none⟩ := fun c h => by
    rw [World.cell?_setCell_other _ _ _ _ (e c 3 h (by decide)).symm, World.cell?_setCell_other _ _ _ _ (e c 2 h (by decide)).symm, World.cell?_setCell_other _ _ _ _ (e c 1 h (by decide)).symm, World.cell?_setCell_other w ⟨g, o', none⟩ _ _ (show (⟨g, o', none⟩ : Addr) ≠ _ from (e c 0 h (by decide)).symm)]
  exact ⟨(hc 0 (by decide)).trans k0, (hc 1 (by decide)).trans k1, (hc 2 (by decide)).trans k2, (hc 3 (by decide)).trans k3, by go_simp, by go_simp, by go_simp, by go_simp⟩
theorem RowL.store {w : World} {g i : Nat} {D : List RR} (H : RowL w g D) (hi : i < D.length) (r : RR) : RowL ((((w.setCell ⟨g, i * 4, none⟩ (.int .i64 r.x)).setCell ⟨g, i * 4 + 1, none⟩ (.int .i64 r.y)).setCell ⟨g, i * 4 + 2, none⟩ (.int .i64 r.w)).setCell ⟨g, i * 4 + 3, none⟩ (.int .i64 r.h)) g (D.set i r) := by
  intro t q hq
  rw [List.getElem?_set] at hq
  by_cases h : i = t
  · subst h
    rw [if_pos rfl, if_pos hi] at hq
    cases hq
    exact (H i _ (List.getElem?_eq_getElem hi)).store _
  · rw [if_neg h] at hq
    exact (H t q hq).store_other (by omega) r

/-- 'clear' of rectangles: some cells from a place on are written, none ahead of it -/
theorem run_clear_rr (w : World) (ty : TypeId) (g o n c : Nat) (hn : 0 < n) (hc : ∀ j, j < n * 4 → (w.cell? ⟨g, o + j, none⟩).isSome = true) (hf : ∀ j, j < n * 4 → w.frozen? ⟨g, o + j, none⟩ = false) :
    (Builtin.clear_ #[36] ty #[.slice (some ⟨g, o, none⟩) n c]).run Try.prog w = .ok (.tuple #[]) (w.setCells g o (Builtin.zeroCells #[.int .i64 0, .int .i64 0, .int .i64 0, .int .i64 0] n).toList) := by
  have hv : ∀ w, (zeroValue 23).run Try.prog w = .ok (.agg #[.int .i64 0, .int .i64 0, .int .i64 0, .int .i64 0]) w := fun _ => by kernel_rfl
  have hlen : (Builtin.zeroCells #[Value.int .i64 0, .int .i64 0, .int .i64 0, .int .i64 0] n).toList.length = n * 4 := by simp [Builtin.zeroCells]
  have hone : ∀ v ∈ (Builtin.zeroCells #[Value.int .i64 0, .int .i64 0, .int .i64 0, .int .i64 0] n).toList, v.oneCell' = true := by
    intro v hv'
    simp [Builtin.zeroCells] at hv'
    obtain ⟨a, _, rfl⟩ := hv'
    have : a % 4 = 0 ∨ a % 4 = 1 ∨ a % 4 = 2 ∨ a % 4 = 3 := by omega
    rcases this with h | h | h | h <;> simp [h] <;> rfl
  have hst := run_storeCells_cells (P := Try.prog) g o (Builtin.zeroCells #[Value.int .i64 0, .int .i64 0, .int .i64 0, .int .i64 0] n).toList 0 w (by rw [hlen]; simpa using hc) (by rw [hlen]; simpa using hf) hone
  simp only [Nat.add_zero] at hst
  obtain ⟨m, rfl⟩ : ∃ m, n = m + 1 := ⟨n - 1, by omega⟩
  simp [Builtin.clear_, run_underlying Try.underlying36, hv, Value.cells, hst]

/-- the rectangles that have cells -/
def fil (l : List RR) : List RR := l.filter fun r => !pz r
/-- what the row holds at the head of a round: i of them are kept out of the first j; from j on it is as it was -/
def DelInv (D dk : List RR) (i j : Nat) : Prop := dk.length = D.length ∧ dk.take i = fil (D.take j) ∧ i < j ∧ ∀ t, j ≤ t → dk[t]? = D[t]?
theorem fil_snoc (D : List RR) (j : Nat) (r : RR) (h : D[j]? = some r) : fil (D.take (j + 1)) = fil (D.take j) ++ (if pz r then [] else [r]) := by
  obtain ⟨hj, rfl⟩ := List.getElem?_eq_some_iff.1 h
  rw [List.take_succ_eq_append_getElem hj]
  unfold fil
  rw [List.filter_append]
  cases hp : pz D[j] <;> simp [hp]
theorem fil_all (l : List RR) (h : ∀ (t : Nat) q, l[t]? = some q → pz q = false) : fil l = l := by
  unfold fil
  rw [List.filter_eq_self]
  intro a ha
  obtain ⟨t, ht, rfl⟩ := List.getElem_of_mem ha
  rw [h t _ (List.getElem?_eq_getElem ht)]; rfl
theorem DelInv.start {D : List RR} {k : Nat} {q : RR} (hne : ∀ (t : Nat) q, t < k → D[t]? = some q → pz q = false) (hq : D[k]? = some q) (hp : pz q = true) : DelInv D D k (k + 1) := by
  refine ⟨rfl, ?_, by omega, fun _ _ => rfl⟩
  rw [fil_snoc D k q hq, if_pos hp, List.append_nil, fil_all]
  intro t q' h
  rw [List.getElem?_take] at h
  split at h
  · exact hne t q' (by assumption) h
  · cases h
theorem DelInv.keep {D dk : List RR} {i j : Nat} {r : RR} (H : DelInv D dk i j) (hr : D[j]? = some r) (hp : pz r = false) : DelInv D (dk.set i r) (i + 1) (j + 1) := by
  obtain ⟨h1, h2, h3, h4⟩ := H
  have hj := (List.getElem?_eq_some_iff.1 hr).1
  refine ⟨by simpa using h1, ?_, by omega, fun t ht => ?_⟩
  · rw [fil_snoc D j r hr, hp, ← h2, List.take_succ_eq_append_getElem (by simp; omega)]
    simp [List.take_set_of_le]
  · rw [List.getElem?_set, if_neg (by omega)]
    exact h4 t (by omega)
theorem DelInv.skip {D dk : List RR} {i j : Nat} {r : RR} (H : DelInv D dk i j) (hr : D[j]? = some r) (hp : pz r = true) : DelInv D dk i (j + 1) := by
  obtain ⟨h1, h2, h3, h4⟩ := H
  exact ⟨h1, by rw [fil_snoc D j r hr, hp, h2]; simp, by omega, fun t ht => h4 t (by omega)⟩

set_option maxHeartbeats 1600000 in
theorem delete_any (g cap : Nat) (D : List RR) (w : World) (hD : RowL w g D) (hg : g < w.heap.size) (hcap : D.length ≤ cap) (hlen : D.length ≤ 65536) :
    Calls Try.prog 55 #[.slice (some ⟨g, 0, none⟩) D.length cap, .func (.func 18) #[] #[]] w fun e w' =>
      e = .returned (.slice (some ⟨g, 0, none⟩) (fil D).length cap) ∧ RowL w' g (fil D) ∧ w.grownBy w' (some g) := by
  have hidx := index_any g cap D w hD hg hcap hlen
  generalize hn : D.length = n at *
  have HN := Lib.hid hn; clear hn
  have HD := Lib.hid hD; clear hD
  have HI := Lib.hid hidx; clear hidx
  go_enter Try.func55, Try.ntmps55
  go_wp2_with fail
  refine HI.out.mono ?_
  rintro e w1 ⟨r, rfl, hf, hb1⟩
  rcases hf with ⟨rfl, hall⟩ | ⟨k, rfl, hne, q, hq, hp⟩
  · have e1 : fil D = D := fil_all D hall
    have E1 := Lib.hid e1; clear e1 hall
    have h1 : ((-1 : Int) == -1) = true := by decide
    go_wp2_with fail
    go_ret
    rw [E1.out, HN.out]
    exact ⟨rfl, HD.out.below hb1 hg, ⟨hb1.os, hb1.tape, hb1.output, hb1.size, fun i hi _ => hb1.block i hi⟩⟩
  · have hk : k < n := by have := (List.getElem?_eq_some_iff.1 hq).1; rwa [HN.out] at this
    have hst := DelInv.start hne hq hp
    have HST := Lib.hid hst; clear hst hne hq hp
    have h1 : ((k : Int) == -1) = false := beq_eq_false_iff_ne.2 (by omega)
    have hrow1 := HD.out.below hb1 hg
    have hgb1 : w.grownBy w1 (some g) := ⟨hb1.os, hb1.tape, hb1.output, hb1.size, fun i hi _ => hb1.block i hi⟩
    clear hb1
    have hrow1 := Lib.hid hrow1
    go_wp2_with fail
    go_loopg [5, 6] n (fun gg s5 s6 wr => ∃ (i j : Nat) (dk : List RR), s5 = .int .i64 i ∧ s6 = .int .i64 j ∧ j ≤ n ∧ n - j ≤ gg ∧ Hid (RowL wr g dk) ∧ Hid (DelInv D dk i j) ∧ w.grownBy wr (some g))
    case atStart => exact ⟨k, k + 1, D, rfl, by go_num, by omega, by omega, hrow1, HST, hgb1⟩
    case round =>
      obtain ⟨i, j, dk, rfl, rfl, hjn, hgg, hrow, hinv, hgb⟩ := hrel
      have hij := hinv.out.2.2.1
      have hdl : dk.length = n := hinv.out.1.trans HN.out
      have HDL := Lib.hid hdl; clear hdl
      by_cases hlt : j < n
      · obtain ⟨r, hr⟩ : ∃ r, D[j]? = some r := ⟨_, List.getElem?_eq_getElem (by rw [HN.out]; exact hlt)⟩
        have hr' : dk[j]? = some r := (hinv.out.2.2.2 j (Nat.le_refl _)).trans hr
        have HR := Lib.hid hr; clear hr
        obtain ⟨k0, k1, k2, k3, f0, f1, f2, f3⟩ := hrow.out j r hr'
        clear hr'
        obtain ⟨rx, ry, rw', rh⟩ := r
        dsimp only at k0 k1 k2 k3
        go_wp2_with fail
        obtain ⟨bz, hbz⟩ : ∃ bz, bz = pz ⟨rx, ry, rw', rh⟩ := ⟨_, rfl⟩
        refine (empty_pz _ _ _ _ _).mono ?_
        rintro e w2 ⟨rfl, hb2⟩
        rw [← hbz]
        have HB := Lib.hid hbz; clear hbz
        have hsz : (wr.alloc (rc rx ry rw' rh)).heap.size = wr.heap.size + 1 := by simp
        have hgw : g < wr.heap.size := by have := hgb.size; omega
        have hrb := (RectAt.new wr rx ry rw' rh 23).below hb2 (by rw [hsz]; omega)
        have hrow2 := ((hrow.out.keep (Below.heap_alloc wr (rc rx ry rw' rh) g hgw)).below hb2 (by rw [hsz]; omega))
        have hgb2 := gb_below (gb_alloc hgb (rc rx ry rw' rh)) hb2
        clear k0 k1 k2 k3 f0 f1 f2 f3 hgb hrow hb2 hsz
        cases bz
        · obtain ⟨old, ho⟩ : ∃ r, dk[i]? = some r := ⟨_, List.getElem?_eq_getElem (by rw [HDL.out]; omega)⟩
          obtain ⟨k0, k1, k2, k3, f0, f1, f2, f3⟩ := hrow2 i old ho
          obtain ⟨u0, l0, l1, l2, l3, g0, g1, g2, g3⟩ := (id hrb : RectAt _ _ _ _ _ _)
          clear ho
          have hrow3 := hrow2.store (i := i) (by rw [HDL.out]; omega) ⟨rx, ry, rw', rh⟩
          have HROW := Lib.hid hrow3
          clear hrow3 hrow2
          have hgb3 := gb_setCell (gb_setCell (gb_setCell (gb_setCell hgb2 (p := ⟨g, i * 4, none⟩) (.inl rfl) (.int .i64 rx)) (p := ⟨g, i * 4 + 1, none⟩) (.inl rfl) (.int .i64 ry)) (p := ⟨g, i * 4 + 2, none⟩) (.inl rfl) (.int .i64 rw')) (p := ⟨g, i * 4 + 3, none⟩) (.inl rfl) (.int .i64 rh)
          go_wp2_with fail
          go_roundg (n - (j + 1))
          case measure => omega
          case rel => exact ⟨i + 1, j + 1, dk.set i ⟨rx, ry, rw', rh⟩, by go_num, by go_num, by omega, Nat.le_refl _, HROW, Lib.hid (hinv.out.keep HR.out HB.out.symm), hgb3⟩
        · have HROW := Lib.hid hrow2
          clear hrow2
          go_wp2_with fail
          go_roundg (n - (j + 1))
          case measure => omega
          case rel => exact ⟨i, j + 1, dk, rfl, by go_num, by omega, Nat.le_refl _, HROW, Lib.hid (hinv.out.skip HR.out HB.out.symm), hgb2⟩
      · obtain rfl : j = n := by omega
        have hcl : ∀ ty, (Builtin.clear_ #[36] ty #[.slice (some ⟨g, i * 4, none⟩) (j - i) (cap - i)]).run Try.prog wr = .ok (.tuple #[]) (wr.setCells g (i * 4) (Builtin.zeroCells #[.int .i64 0, .int .i64 0, .int .i64 0, .int .i64 0] (j - i)).toList) := fun ty => by
          have hq : ∀ t, t < (j - i) * 4 → (wr.cell? ⟨g, i * 4 + t, none⟩).isSome = true ∧ wr.frozen? ⟨g, i * 4 + t, none⟩ = false := fun t ht => by
            obtain ⟨q, hq⟩ : ∃ r, dk[i + t / 4]? = some r := ⟨_, List.getElem?_eq_getElem (by rw [HDL.out]; omega)⟩
            obtain ⟨k0, k1, k2, k3, f0, f1, f2, f3⟩ := hrow.out _ q hq
            have : t % 4 = 0 ∨ t % 4 = 1 ∨ t % 4 = 2 ∨ t % 4 = 3 := by omega
            rcases this with h | h | h | h
            · rw [show i * 4 + t = (i + t / 4) * 4 by omega, k0]; exact ⟨rfl, f0⟩
            · rw [show i * 4 + t = (i + t / 4) * 4 + 1 by omega, k1]; exact ⟨rfl, f1⟩
            · rw [show i * 4 + t = (i + t / 4) * 4 + 2 by omega, k2]; exact ⟨rfl, f2⟩
            · rw [show i * 4 + t = (i + t / 4) * 4 + 3 by omega, k3]; exact ⟨rfl, f3⟩
          exact run_clear_rr wr ty g (i * 4) _ _ (by omega) (fun t ht => (hq t ht).1) (fun t ht => (hq t ht).2)
        have hi : i ≤ j := by omega
        have hci : ¬ cap = i := by omega
        go_wp2_with fail
        go_ret
        have hD' : fil D = dk.take i := by
          rw [hinv.out.2.1, List.take_of_length_le (by rw [HN.out]; exact Nat.le_refl _)]
        rw [hD', List.length_take, HDL.out, Nat.min_eq_left hi]
        refine ⟨rfl, fun t q hq => ?_, gb_setCells _ _ _ hgb⟩
        rw [List.getElem?_take] at hq
        split at hq
        · rename_i hti
          obtain ⟨k0, k1, k2, k3, f0, f1, f2, f3⟩ := hrow.out t q hq
          have ho : ∀ c, c < 4 → ∀ vs, (wr.setCells g (i * 4) vs).cell? ⟨g, t * 4 + c, none⟩ = wr.cell? ⟨g, t * 4 + c, none⟩ := fun c hc vs => World.cell?_setCells_out g vs _ wr _ (fun _ _ => .inl (by show t * 4 + c < i * 4; omega))
          exact ⟨(ho 0 (by decide) _).trans k0, (ho 1 (by decide) _).trans k1, (ho 2 (by decide) _).trans k2, (ho 3 (by decide) _).trans k3,
            (World.frozen?_setCells g _ _ wr _).trans f0, (World.frozen?_setCells g _ _ wr _).trans f1, (World.frozen?_setCells g _ _ wr _).trans f2, (World.frozen?_setCells g _ _ wr _).trans f3⟩
        · cases hq

set_option maxHeartbeats 400000 in
theorem filled_any (g cap : Nat) (D : List RR) (w : World) (hD : RowL w g D) (hg : g < w.heap.size) (hcap : D.length ≤ cap) (hlen : D.length ≤ 65536) :
    Calls Try.prog 49 #[.slice (some ⟨g, 0, none⟩) D.length cap] w fun e w' =>
      e = .returned (.slice (some ⟨g, 0, none⟩) (fil D).length cap) ∧ RowL w' g (fil D) ∧ w.grownBy w' (some g) := by
  have H := Lib.hid (delete_any g cap D w hD hg hcap hlen)
  clear hD
  go_enter Try.func49, Try.ntmps49
  go_wp2_with fail
  refine H.out.mono ?_
  rintro e w' ⟨rfl, h1, h2⟩
  go_wp2_with fail
  go_ret
  exact ⟨rfl, h1, h2⟩
end Go.Proofs.Ytpmggljdcbbdfaa
