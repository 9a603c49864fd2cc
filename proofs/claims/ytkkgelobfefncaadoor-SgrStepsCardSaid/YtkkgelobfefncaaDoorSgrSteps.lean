/- SgrSteps returns true at every input: numbers none of which is 38 or 48, in two parts, are applied as at once. -/
import Derived.Test.YtkkgelobfefncaaDoorSgrAlive
namespace Go.Proofs.YtkkgelobfefncaaDoor
open Go.RowKit
attribute [local go_sem ↓ 10000] run_slo

/-- a row that grows -/
structure Short (l : List Int) (k : Nat) : Prop where
  len : l.length ≤ k
  max : l.length ≤ 16
  no : ∀ z ∈ l, z ≠ 38 ∧ z ≠ 48
  i64 : ∀ z ∈ l, I64 z
theorem Short.more {l : List Int} {k : Nat} (h : Short l k) : Short l (k + 1) := ⟨Nat.le_succ_of_le h.len, h.max, h.no, h.i64⟩
theorem Short.add {l : List Int} {k : Nat} {x : Int} (h : Short l k) (hk : k < 16) (h1 : x ≠ 38) (h2 : x ≠ 48) (hx : I64 x) : Short (l ++ [x]) (k + 1) :=
  ⟨by have := h.len; simp; omega, by have := h.len; simp; omega, fun z hz => by
    rcases List.mem_append.1 hz with h' | h'
    · exact h.no z h'
    · obtain rfl := List.mem_singleton.1 h'; exact ⟨h1, h2⟩, fun z hz => by
    rcases List.mem_append.1 hz with h' | h'
    · exact h.i64 z h'
    · obtain rfl := List.mem_singleton.1 h'; exact hx⟩
theorem new_one (wr : World) (x : Int) : Ints (wr.alloc (.cells #[.int .i64 x] 3)) (some ⟨wr.heap.size, 0, none⟩) 1 1 [x] := by
  have := Ints.new wr 3 [x] (by simp)
  simpa using this

theorem keep1 {wr X X' : World} {B : Nat} {f g a : Int} (hb : Below X.heap.size X X') (hS : (Below wr.heap.size wr X ∧ X.cell? ⟨B, 0, none⟩ = some (.int .i64 f) ∧ X.cell? ⟨B, 1, none⟩ = some (.int .i64 g) ∧ X.cell? ⟨B, 2, none⟩ = some (.int .i64 a))) : (Below wr.heap.size wr X' ∧ X'.cell? ⟨B, 0, none⟩ = some (.int .i64 f) ∧ X'.cell? ⟨B, 1, none⟩ = some (.int .i64 g) ∧ X'.cell? ⟨B, 2, none⟩ = some (.int .i64 a)) := by
  obtain ⟨h0, h1, h2, h3⟩ := hS
  have hl : B < X.heap.size := World.block_lt_of_cell? X ⟨B, 0, none⟩ h1
  exact ⟨h0.trans (hb.mono h0.size), (hb.cell (p := ⟨B, 0, none⟩) hl).trans h1, (hb.cell (p := ⟨B, 1, none⟩) hl).trans h2, (hb.cell (p := ⟨B, 2, none⟩) hl).trans h3⟩
theorem keep1b {w wr X : World} {B : Nat} {f g a : Int} (hb : Below w.heap.size w wr) (hS : (Below wr.heap.size wr X ∧ X.cell? ⟨B, 0, none⟩ = some (.int .i64 f) ∧ X.cell? ⟨B, 1, none⟩ = some (.int .i64 g) ∧ X.cell? ⟨B, 2, none⟩ = some (.int .i64 a))) : Below w.heap.size w X := hb.trans (hS.1.mono hb.size)

set_option maxRecDepth 100000 in
set_option maxHeartbeats 1600000 in
theorem steps_any (f g a : Int) (o : Option Addr) (n cap : Nat) (zs : List Int) (at_ : Int) (w : World) (ht : Tabs w) (hx : Ints w o n cap zs) (hI : ∀ z ∈ zs, I64 z) (hat : I64 at_) :
    Calls Tryd.prog 6 #[.agg #[.int .i64 f, .int .i64 g, .int .i64 a], .slice o n cap, .int .i64 at_] w fun e w' => e = .returned (.bool true) ∧ Below w.heap.size w w' := by
  have z1 := eqgst
  have z2 := run_eq_st
  have hle := hx.le
  have hm : cap ≤ 9223372036854775807 := hx.max
  obtain ⟨i0, hi, hz0, hz1, hz2⟩ := info_parts infoE
  have hT := one_after (Below.refl (w.alloc (stObj ⟨f, g, a⟩)).heap.size (w.alloc (stObj ⟨f, g, a⟩)))
  have h2 := ht.two
  have HT := Lib.hid ht; have HX := Lib.hid hx; have HI := Lib.hid hI; have HAT := Lib.hid hat
  have H0 := Lib.hid hT
  clear ht hx hI hT hat
  go_enter Tryd.func6, Tryd.ntmps6
  go_wp2_with fail
  refine (alive_any _ (HT.out.below H0.out.2 HT.out.two)).mono ?_
  rintro e w1 ⟨rfl, hb⟩
  have hst : StAt w1 w.heap.size ⟨f, g, a⟩ := H0.out.1.below hb H0.out.1.cells.lt
  have hbl : Below w.heap.size w w1 := H0.out.2.trans (hb.mono (Nat.le_of_lt H0.out.1.cells.lt))
  generalize hB : w.heap.size = B at *
  have HB := Lib.hid hB
  have HS := Lib.hid hst; have HBL := Lib.hid hbl
  clear hb hst hbl hB
  go_wp2_with fail
  have hP : PR w (w1.alloc (.cells #[] 3)) B (.slice (some ⟨w1.heap.size, 0, none⟩) 0 0) [] ⟨f, g, a⟩ := by
    refine ⟨?_, HS.out.kept ((Kept.refl _ (fun _ => False)).alloc _) (fun h => h), HBL.out.alloc (Nat.le_of_lt HS.out.cells.lt) _⟩
    exact own_base (base' := B + 1) (Row.new w1 [] (by simp)) (by have := HS.out.cells.lt; omega)
  have HP := Lib.hid hP; clear hP
  clear H0 HS HBL
  go_loopg [7, 15] n (fun gg s7 s15 wr => ∃ (k : Nat) (o' : Option Addr) (m cap' : Nat) (l : List Int), s7 = .slice o' m cap' ∧ s15 = .int .i64 k ∧ k ≤ n ∧ n - k ≤ gg ∧ m ≤ 16 ∧ m ≤ cap' ∧ Hid (m = l.length) ∧ Hid (Short l k) ∧ Hid (PR w wr B (.slice o' m cap') l ⟨f, g, a⟩))
  case atStart => exact ⟨0, _, _, _, [], rfl, rfl, Nat.zero_le _, by omega, by omega, by omega, Lib.hid rfl, Lib.hid ⟨by simp, by simp, by simp, by simp⟩, HP⟩
  case round =>
    obtain ⟨k, o', m, cap', l, rfl, rfl, hk, hgg, hm16, hmc, HN, HSH, HPR⟩ := hrel
    clear HP
    by_cases hlt : k < n
    · obtain ⟨vb, off, rfl, hvb, hc⟩ := (HX.out.below (HB.out.symm ▸ HPR.out.bel)).cell hlt
      have hxz : zs.getD k 0 ∈ zs := by
        have hl : k < zs.length := by rw [HX.out.len]; exact hlt
        simp [List.getD, hl]
      have hxi := HI.out _ hxz
      generalize zs.getD k 0 = x at *
      have HXI := Lib.hid hxi
      clear hxz hxi
      have hki : ((k : Int) < (n : Int)) := by omega
      by_cases hc1 : k < 16 ∧ x ≠ 38 ∧ x ≠ 48
      · obtain ⟨h16, h38, h48⟩ := hc1
        have d1 : decide ((k : Int) < 16) = true := decide_eq_true (by omega)
        have e1 : (x != 38) = true := by simpa using h38
        have e2 : (x != 48) = true := by simpa using h48
        have HSH2 := Lib.hid (HSH.out.add h16 h38 h48 HXI.out)
        have hml : m ≤ k := by rw [HN.out]; exact HSH.out.len
        clear h38 h48
        go_wp2_with (at_builtin; refine wpList_append_ints rfl _ _ 24 rfl (B + 1) 3 i0 (Value.int .i64 0) Tryd.underlying24 hi hz0 hz1 hz2 rfl (.slice o' m cap') m l rfl ?c1 (some ⟨wr.heap.size, 0, none⟩) 1 1 [x] rfl (new_one wr x) ?c2 ?c3 ?_)
        case c1 => exact (HPR.out.new (below_one wr _)).own HN.out
        case c2 => omega
        case c3 => simp; have := HPR.out.st.cells.lt; omega
        intro v' w2 hr2 hg2
        have HPR2 := Lib.hid ((HPR.out.new (below_one wr _)).grow (ys := l ++ [x]) (v' := v') (m := m + 1) hg2 (by rw [List.length_append, ← HN.out]; rfl) (by simpa using hr2))
        obtain ⟨o2, cap2, hv2, hi2⟩ := HPR2.out.row.slice
        have HN2 : Hid (m + 1 = (l ++ [x]).length) := Lib.hid (by rw [List.length_append, ← HN.out]; rfl)
        rw [← HN2.out] at hv2 hi2
        subst hv2
        have hc2 := hi2.le
        have hm2 : m + 1 ≤ 16 := by rw [HN2.out]; exact HSH2.out.max
        clear hr2 hg2 hi2 d1 e1 e2
        go_wp2_with fail
        go_roundg (n - (k + 1))
        case measure => omega
        case rel => exact ⟨k + 1, o2, m + 1, cap2, l ++ [x], rfl, by go_num, by omega, Nat.le_refl _, hm2, hc2, HN2, HSH2, HPR2⟩
      · have HSH2 := Lib.hid HSH.out.more
        have hc2 : (decide ((k : Int) < 16) = false) ∨ (decide ((k : Int) < 16) = true ∧ (x != 38) = false) ∨ (decide ((k : Int) < 16) = true ∧ (x != 38) = true ∧ (x != 48) = false) := by
          by_cases h1 : k < 16
          · by_cases h2 : x = 38
            · exact .inr (.inl ⟨decide_eq_true (by omega), by simpa using h2⟩)
            · have h3 : x = 48 := Classical.byContradiction fun h3 => hc1 ⟨h1, h2, h3⟩
              exact .inr (.inr ⟨decide_eq_true (by omega), by simpa using h2, by simpa using h3⟩)
          · exact .inl (decide_eq_false (by omega))
        clear hc1
        rcases hc2 with d1 | ⟨d1, d2⟩ | ⟨d1, d2, d3⟩
        all_goals
          go_wp2_with fail
          go_roundg (n - (k + 1))
          case measure => omega
          case rel => exact ⟨k + 1, o', m, cap', l, rfl, by go_num, by omega, Nat.le_refl _, hm16, hmc, HN, HSH2, HPR⟩
    · obtain rfl : k = n := by omega
      have hbel : Below w.heap.size w wr := by rw [HB.out]; exact HPR.out.bel
      have HBE := Lib.hid hbel
      clear hbel
      by_cases h0 : at_ ≤ 0
      · go_wp2_with fail
        go_ret
        exact ⟨rfl, HBE.out⟩
      · by_cases h1 : (m : Int) ≤ at_
        · have h0' : 0 < at_ := by omega
          go_wp2_with fail
          go_ret
          exact ⟨rfl, HBE.out⟩
        · obtain ⟨t, rfl⟩ : ∃ t : Nat, at_ = (t : Int) := ⟨at_.toNat, by omega⟩
          have ht0 : 0 < t := by omega
          have htm : t < m := by omega
          obtain ⟨k0, k1, k2, f0, f1, f2, u0⟩ := HPR.out.st.cells
          obtain ⟨o5, cap5, hv5, hi5⟩ := HPR.out.row.slice
          rw [← HN.out] at hv5 hi5
          obtain ⟨rfl, rfl⟩ : o5 = o' ∧ cap5 = cap' := by simpa using hv5.symm
          have hA1 := (slice_hi hi5 t (Nat.le_of_lt htm) t rfl).2
          have hA2 := slice_lo hi5 t (Nat.le_of_lt htm)
          have hwt := HT.out.below HPR.out.bel h2
          have HA := Lib.hid (fun X (h : Below wr.heap.size wr X) => apply_any f g a o5 t cap5 (l.take t) X (hA1.below h) (fun z hz => HSH.out.i64 z (List.mem_of_mem_take hz)) (hwt.below h hwt.two))
          have HC := Lib.hid (fun X (h : Below wr.heap.size wr X) => apply_any f g a o5 m cap5 l X (hi5.below h) HSH.out.i64 (hwt.below h hwt.two))
          have hq := sg.apply_parts ⟨f, g, a⟩ l t ht0 (by rw [← HN.out]; exact htm) HSH.out.max HSH.out.no
          generalize sg.apply ⟨f, g, a⟩ (l.take t) = R1 at *
          have hA2' := fun X (h : Below wr.heap.size wr X) => apply_any R1.fg R1.bg R1.at_ (slo o5 cap5 t) (m - t) (cap5 - t) (l.drop t) X (hA2.below h) (fun z hz => HSH.out.i64 z (List.mem_of_mem_drop hz)) (hwt.below h hwt.two)
          rw [show (⟨R1.fg, R1.bg, R1.at_⟩ : sg.St) = R1 from rfl, hq] at hA2'
          have HD := Lib.hid hA2'
          generalize sg.apply ⟨f, g, a⟩ l = R at *
          have q := eq3_self R.fg R.bg R.at_
          clear hA2' hq hwt hA1 hA2 hi5 hv5
          have htl : (t : Int) ≤ (m : Int) := by omega
          have htc : (t : Int) ≤ (cap5 : Int) := by omega
          have ht00 : (0 : Int) ≤ (t : Int) := by omega
          have hz0' := Nat.le_refl wr.heap.size
          go_wp2_with fail
          have s0 : (Below wr.heap.size wr wr.drew ∧ wr.drew.cell? ⟨B, 0, none⟩ = some (.int .i64 f) ∧ wr.drew.cell? ⟨B, 1, none⟩ = some (.int .i64 g) ∧ wr.drew.cell? ⟨B, 2, none⟩ = some (.int .i64 a)) := ⟨(Below.refl _ _).drew, k0, k1, k2⟩
          go_region_held3 (fun X => (Below wr.heap.size wr X ∧ X.cell? ⟨B, 0, none⟩ = some (.int .i64 f) ∧ X.cell? ⟨B, 1, none⟩ = some (.int .i64 g) ∧ X.cell? ⟨B, 2, none⟩ = some (.int .i64 a))) (with_reducible (first | exact s0 | assumption | exact keep1 (by assumption) (by assumption)))
            (first | (go_at_call 9; (first
              | ((with_reducible refine (HA.out _ ?hs1).mono ?_); (case hs1 => first | assumption | (apply And.left; assumption)); rintro e wa ⟨rfl, hba⟩)
              | ((with_reducible refine (HC.out _ ?hs2).mono ?_); (case hs2 => first | assumption | (apply And.left; assumption)); rintro e wc ⟨rfl, hbc⟩)
              | ((with_reducible refine (HD.out _ ?hs3).mono ?_); (case hs3 => first | assumption | (apply And.left; assumption)); rintro e wd ⟨rfl, hbd⟩))))
          all_goals go_wp2_with fail
          all_goals
            go_ret
            refine ⟨rfl, keep1b HBE.out (f := f) (g := g) (a := a) (B := B) ?hS⟩
            case hS => assumption
end Go.Proofs.YtkkgelobfefncaaDoor
