/- The document's way with one number. -/
import Derived.Test.YtkkgelobfefncaaDoorSgrRef
namespace Go.Proofs.YtkkgelobfefncaaDoor
open Go.RowKit

/-- what the first k rows do, as the document has it -/
def rowK (a n : Int) : Nat → Int
  | 0 => a
  | k + 1 =>
    if n = [1, 2, 3, 4, 7].getD k 0 + 20 ∧ 2 < ([1, 2, 3, 4, 7].getD k 0 : Int) then sg.without (if n = [1, 2, 3, 4, 7].getD k 0 then sg.withM (rowK a n k) ([1, 2, 4, 8, 16].getD k 0) else rowK a n k) ([1, 2, 4, 8, 16].getD k 0)
    else (if n = [1, 2, 3, 4, 7].getD k 0 then sg.withM (rowK a n k) ([1, 2, 4, 8, 16].getD k 0) else rowK a n k)
theorem rowK_all (a n : Int) : (if n = 22 then sg.without (sg.without (rowK a n 5) 1) 2 else rowK a n 5) = sg.markOf a n := by
  simp only [rowK, List.getD, List.getElem?_cons_zero, List.getElem?_cons_succ, Option.getD_some]
  unfold sg.markOf
  by_cases h1 : n = 1
  · subst h1; simp
  by_cases h2 : n = 2
  · subst h2; simp
  by_cases h3 : n = 3
  · subst h3; simp
  by_cases h4 : n = 4
  · subst h4; simp
  by_cases h7 : n = 7
  · subst h7; simp
  by_cases h22 : n = 22
  · subst h22; simp
  by_cases h23 : n = 23
  · subst h23; simp
  by_cases h24 : n = 24
  · subst h24; simp
  by_cases h27 : n = 27
  · subst h27; simp
  simp [h1, h2, h3, h4, h7, h22, h23, h24, h27]
/-- the two tables of the document, a style, and a result, whatever is called -/
structure OneW (w X : World) (B : Nat) (s : sg.St) : Prop where
  st : StAt X B s
  out : StAt X (B + 1) sg.zero
  ns : Ints X (some ⟨B + 1 + 1, 0, none⟩) 5 5 [1, 2, 3, 4, 7]
  ms : Ints X (some ⟨B + 1 + 1 + 1, 0, none⟩) 5 5 [1, 2, 4, 8, 16]
  bel : Below B w X
theorem Ints.far {w w' : World} {b B n cap : Nat} {zs : List Int} (h : Ints w (some ⟨b, 0, none⟩) n cap zs) (hk : Kept w w' (· = B)) (hb : b ≠ B) : Ints w' (some ⟨b, 0, none⟩) n cap zs :=
  h.same (fun k hk' off ho => hk.block k hk' (by cases ho; exact hb)) hk.size
theorem OneW.kept {w X X' : World} {B : Nat} {s s' : sg.St} (h : OneW w X B s) (hk : Kept X X' (· = B)) (hs : StAt X' B s') : OneW w X' B s' :=
  ⟨hs, h.out.kept hk (fun e => by omega), h.ns.far hk (by omega), h.ms.far hk (by omega), h.bel.trans (Below.of_kept hk (Nat.le_refl _) (Nat.le_of_lt h.st.cells.lt))⟩
theorem OneW.set {w X : World} {B : Nat} {f g x : Int} (h : OneW w X B ⟨f, g, x⟩) (y : Int) : OneW w (X.drew.setCell ⟨B, 2, none⟩ (.int .i64 y)) B ⟨f, g, y⟩ :=
  h.kept ((Kept.refl X (fun k => k = B)).drew.setCell (fun _ => rfl) _) ((show StAt X.drew B ⟨f, g, x⟩ from h.st).set2 y)
theorem OneW.n {w X : World} {B : Nat} {s : sg.St} (h : OneW w X B s) (k : Nat) (hk : k < 5) : X.cell? ⟨B + 1 + 1, k, none⟩ = some (.int .i64 ([1, 2, 3, 4, 7].getD k 0)) := by
  obtain ⟨b, off, e, _, hc⟩ := h.ns.all (by decide)
  cases e
  have := hc k hk
  rwa [Nat.zero_add] at this
theorem OneW.m {w X : World} {B : Nat} {s : sg.St} (h : OneW w X B s) (k : Nat) (hk : k < 5) : X.cell? ⟨B + 1 + 1 + 1, k, none⟩ = some (.int .i64 ([1, 2, 4, 8, 16].getD k 0)) := by
  obtain ⟨b, off, e, _, hc⟩ := h.ms.all (by decide)
  cases e
  have := hc k hk
  rwa [Nat.zero_add] at this
theorem oneW_new (w : World) (s : sg.St) : OneW w ((((w.alloc (stObj s)).alloc (stObj sg.zero)).alloc (.cells #[.int .i64 1, .int .i64 2, .int .i64 3, .int .i64 4, .int .i64 7] 3)).alloc (.cells #[.int .i64 1, .int .i64 2, .int .i64 4, .int .i64 8, .int .i64 16] 3)) w.heap.size s := by
  obtain ⟨h0, h1, h2⟩ := two_after (s := s) (t := sg.zero) (Below.refl ((w.alloc (stObj s)).alloc (stObj sg.zero)).heap.size ((w.alloc (stObj s)).alloc (stObj sg.zero)))
  have hs : ((w.alloc (stObj s)).alloc (stObj sg.zero)).heap.size = w.heap.size + 2 := by simp
  generalize ((w.alloc (stObj s)).alloc (stObj sg.zero)) = W at *
  have hb := below_two W (.cells #[.int .i64 1, .int .i64 2, .int .i64 3, .int .i64 4, .int .i64 7] 3) (.cells #[.int .i64 1, .int .i64 2, .int .i64 4, .int .i64 8, .int .i64 16] 3)
  have n1 := (Ints.new W 3 [1, 2, 3, 4, 7] (by simp)).below (below_one _ (.cells #[.int .i64 1, .int .i64 2, .int .i64 4, .int .i64 8, .int .i64 16] 3))
  have n2 := Ints.new (W.alloc (.cells #[.int .i64 1, .int .i64 2, .int .i64 3, .int .i64 4, .int .i64 7] 3)) 3 [1, 2, 4, 8, 16] (by simp)
  refine ⟨h0.below hb (by omega), h1.below hb (by omega), ?_, ?_, h2.trans (hb.mono (by omega))⟩
  · rw [hs] at n1; exact n1
  · have e : (W.alloc (.cells #[.int .i64 1, .int .i64 2, .int .i64 3, .int .i64 4, .int .i64 7] 3)).heap.size = w.heap.size + 3 := by simp [hs]
    rw [e] at n2; exact n2

set_option maxRecDepth 100000 in
set_option maxHeartbeats 1600000 in
theorem one_any (f g a n : Int) (w : World) (h0 : 0 ≤ a) (h1 : a ≤ 31) :
    Calls Tryd.prog 24 #[.agg #[.int .i64 f, .int .i64 g, .int .i64 a], .int .i64 n] w fun e w' => e = .returned (stV (sg.one ⟨f, g, a⟩ n)) ∧ Below w.heap.size w w' := by
  have HR : Hid (sg.one ⟨f, g, a⟩ n = if n = -1 ∨ n = 0 then sg.zero else ⟨sg.basic f (n - 30), sg.basic g (n - 40), sg.markOf a n⟩) := Lib.hid rfl
  generalize sg.one ⟨f, g, a⟩ n = R at *
  by_cases hz : n = -1 ∨ n = 0
  · rw [if_pos hz] at HR
    have hb : Below w.heap.size w ((w.alloc (stObj ⟨f, g, a⟩)).alloc (stObj sg.zero)) := below_two w _ _
    have HB := Lib.hid hb; clear hb
    rcases hz with rfl | rfl
    all_goals
      go_enter Tryd.func24, Tryd.ntmps24
      go_wp2
      simp [bodyPost, results, Tryd.results24, go_sem]
      refine ⟨by rw [HR.out]; simp [sg.zero], ?_⟩
      first | exact HB.out | exact below_set3 HB.out (Nat.le_succ _) _ _ _
  · rw [if_neg hz] at HR
    have z1 : (n == -1) = false := by simp; omega
    have z2 : (n == 0) = false := by simp; omega
    have HM := Lib.hid (rowK_all a n)
    have HO := Lib.hid (oneW_new w ⟨f, g, a⟩)
    have HZ := Lib.hid hz; clear hz
    go_enter Tryd.func24, Tryd.ntmps24
    go_wp2_with fail
    refine (marks_any _).mono ?_
    rintro e w1 ⟨rfl, rfl⟩
    go_wp2_with fail
    have hrk : rowK a n 0 = a := rfl
    have HA0 := Lib.hid (And.intro h0 h1)
    go_loopg [7] 5 (fun gg s7 wr => ∃ (k : Nat) (z : Int), s7 = .int .i64 z ∧ z = k ∧ k ≤ 5 ∧ 5 - k ≤ gg ∧ Hid (OneW w wr w.heap.size ⟨f, g, rowK a n k⟩) ∧ 0 ≤ rowK a n k ∧ rowK a n k ≤ 31)
    case atStart => exact ⟨0, 0, rfl, rfl, by omega, by omega, HO, HA0.out.1, HA0.out.2⟩
    case round =>
      obtain ⟨k, z, rfl, hz, hk, hgg, HW, ha0, ha1⟩ := hrel
      clear HO h0 h1 hrk
      obtain ⟨k0, k1, k2, f0, f1, f2, u0⟩ := HW.out.st.cells
      have hsz1 := HW.out.out.cells.lt
      have hns := HW.out.n
      have hms := HW.out.m
      by_cases hlt : k < 5
      · have hxe : rowK a n k = rowK a n k := rfl
        generalize hxx : rowK a n k = x at *
        have HX := Lib.hid hxx; clear hxx hxe
        obtain rfl | rfl | rfl | rfl | rfl : k = 0 ∨ k = 1 ∨ k = 2 ∨ k = 3 ∨ k = 4 := by omega
        · have hz2 : z = 0 := by omega
          clear hz; subst hz2
          have n0 : wr.cell? ⟨w.heap.size + 1 + 1, 0, none⟩ = some (.int .i64 1) := hns 0 (by decide)
          have m0 : wr.cell? ⟨w.heap.size + 1 + 1 + 1, 0, none⟩ = some (.int .i64 1) := hms 0 (by decide)
          have hst : rowK a n 1 = if n = 1 + 20 ∧ (2 : Int) < 1 then sg.without (if n = 1 then sg.withM x 1 else x) 1 else (if n = 1 then sg.withM x 1 else x) := by rw [← HX.out]; rfl
          have HT := Lib.hid hst; have HB := Lib.hid (mark_bound 1 (by omega) ha0 ha1)
          have HWI := Lib.hid (fun W => with_any x 1 W ha0 ha1 (by omega)); have HWO := Lib.hid (fun W => without_any x 1 W ha0 ha1 (by omega))
          clear hst hns hms
          by_cases e1 : n = 1
          · have b1 : (n == 1) = true := by simp [e1]
            have b2 : (n == 21) = false := by simp; omega
            have hv : rowK a n 1 = sg.withM x 1 := by rw [HT.out, if_neg (by omega), if_pos e1]
            have HV := Lib.hid hv
            clear hv e1
            go_wp2_with fail
            go_region_with (go_at_call 37; refine (HWI.out _).mono ?_; rintro e w' ⟨rfl, rfl⟩)
            all_goals
              go_wp2_with fail
              go_roundg (5 - 1)
              case measure => omega
              case rel => exact ⟨1, 1, rfl, rfl, by omega, Nat.le_refl _, Lib.hid (by rw [HV.out]; exact HW.out.set _), by rw [HV.out]; exact HB.out.1.1, by rw [HV.out]; exact HB.out.1.2⟩
          · have b1 : (n == 1) = false := by simpa using e1
            have hv : rowK a n 1 = x := by rw [HT.out, if_neg (by omega), if_neg e1]
            have HV := Lib.hid hv
            clear hv e1
            cases b2 : (n == 21)
            all_goals
              go_wp2_with fail
              go_roundg (5 - 1)
              case measure => omega
              case rel => exact ⟨1, 1, rfl, rfl, by omega, Nat.le_refl _, by rw [HV.out]; exact HW, by rw [HV.out]; exact ha0, by rw [HV.out]; exact ha1⟩
        · have hz2 : z = 1 := by omega
          clear hz; subst hz2
          have n0 : wr.cell? ⟨w.heap.size + 1 + 1, 1, none⟩ = some (.int .i64 2) := hns 1 (by decide)
          have m0 : wr.cell? ⟨w.heap.size + 1 + 1 + 1, 1, none⟩ = some (.int .i64 2) := hms 1 (by decide)
          have hst : rowK a n 2 = if n = 2 + 20 ∧ (2 : Int) < 2 then sg.without (if n = 2 then sg.withM x 2 else x) 2 else (if n = 2 then sg.withM x 2 else x) := by rw [← HX.out]; rfl
          have HT := Lib.hid hst; have HB := Lib.hid (mark_bound 2 (by omega) ha0 ha1)
          have HWI := Lib.hid (fun W => with_any x 2 W ha0 ha1 (by omega)); have HWO := Lib.hid (fun W => without_any x 2 W ha0 ha1 (by omega))
          clear hst hns hms
          by_cases e1 : n = 2
          · have b1 : (n == 2) = true := by simp [e1]
            have b2 : (n == 22) = false := by simp; omega
            have hv : rowK a n 2 = sg.withM x 2 := by rw [HT.out, if_neg (by omega), if_pos e1]
            have HV := Lib.hid hv
            clear hv e1
            go_wp2_with fail
            go_region_with (go_at_call 37; refine (HWI.out _).mono ?_; rintro e w' ⟨rfl, rfl⟩)
            all_goals
              go_wp2_with fail
              go_roundg (5 - 2)
              case measure => omega
              case rel => exact ⟨2, 2, rfl, rfl, by omega, Nat.le_refl _, Lib.hid (by rw [HV.out]; exact HW.out.set _), by rw [HV.out]; exact HB.out.1.1, by rw [HV.out]; exact HB.out.1.2⟩
          · have b1 : (n == 2) = false := by simpa using e1
            have hv : rowK a n 2 = x := by rw [HT.out, if_neg (by omega), if_neg e1]
            have HV := Lib.hid hv
            clear hv e1
            cases b2 : (n == 22)
            all_goals
              go_wp2_with fail
              go_roundg (5 - 2)
              case measure => omega
              case rel => exact ⟨2, 2, rfl, rfl, by omega, Nat.le_refl _, by rw [HV.out]; exact HW, by rw [HV.out]; exact ha0, by rw [HV.out]; exact ha1⟩
        · have hz2 : z = 2 := by omega
          clear hz; subst hz2
          have n0 : wr.cell? ⟨w.heap.size + 1 + 1, 2, none⟩ = some (.int .i64 3) := hns 2 (by decide)
          have m0 : wr.cell? ⟨w.heap.size + 1 + 1 + 1, 2, none⟩ = some (.int .i64 4) := hms 2 (by decide)
          have hst : rowK a n 3 = if n = 3 + 20 ∧ (2 : Int) < 3 then sg.without (if n = 3 then sg.withM x 4 else x) 4 else (if n = 3 then sg.withM x 4 else x) := by rw [← HX.out]; rfl
          have HT := Lib.hid hst; have HB := Lib.hid (mark_bound 4 (by omega) ha0 ha1)
          have HWI := Lib.hid (fun W => with_any x 4 W ha0 ha1 (by omega)); have HWO := Lib.hid (fun W => without_any x 4 W ha0 ha1 (by omega))
          clear hst hns hms
          by_cases e1 : n = 3
          · have b1 : (n == 3) = true := by simp [e1]
            have b2 : (n == 23) = false := by simp; omega
            have hv : rowK a n 3 = sg.withM x 4 := by rw [HT.out, if_neg (by omega), if_pos e1]
            have HV := Lib.hid hv
            clear hv e1
            go_wp2_with fail
            go_region_with (go_at_call 37; refine (HWI.out _).mono ?_; rintro e w' ⟨rfl, rfl⟩)
            all_goals
              go_wp2_with fail
              go_roundg (5 - 3)
              case measure => omega
              case rel => exact ⟨3, 3, rfl, rfl, by omega, Nat.le_refl _, Lib.hid (by rw [HV.out]; exact HW.out.set _), by rw [HV.out]; exact HB.out.1.1, by rw [HV.out]; exact HB.out.1.2⟩
          · have b1 : (n == 3) = false := by simpa using e1
            by_cases e2 : n = 23
            · have b2 : (n == 23) = true := by simp [e2]
              have hv : rowK a n 3 = sg.without x 4 := by rw [HT.out, if_pos ⟨by omega, by decide⟩, if_neg e1]
              have HV := Lib.hid hv
              clear hv e1 e2
              go_wp2_with fail
              go_region_with (go_at_call 38; refine (HWO.out _).mono ?_; rintro e w' ⟨rfl, rfl⟩)
              all_goals
                go_wp2_with fail
                go_roundg (5 - 3)
                case measure => omega
                case rel => exact ⟨3, 3, rfl, rfl, by omega, Nat.le_refl _, Lib.hid (by rw [HV.out]; exact HW.out.set _), by rw [HV.out]; exact HB.out.2.1, by rw [HV.out]; exact HB.out.2.2⟩
            · have b2 : (n == 23) = false := by simpa using e2
              have hv : rowK a n 3 = x := by rw [HT.out, if_neg (by omega), if_neg e1]
              have HV := Lib.hid hv
              clear hv e1 e2
              go_wp2_with fail
              go_roundg (5 - 3)
              case measure => omega
              case rel => exact ⟨3, 3, rfl, rfl, by omega, Nat.le_refl _, by rw [HV.out]; exact HW, by rw [HV.out]; exact ha0, by rw [HV.out]; exact ha1⟩
        · have hz2 : z = 3 := by omega
          clear hz; subst hz2
          have n0 : wr.cell? ⟨w.heap.size + 1 + 1, 3, none⟩ = some (.int .i64 4) := hns 3 (by decide)
          have m0 : wr.cell? ⟨w.heap.size + 1 + 1 + 1, 3, none⟩ = some (.int .i64 8) := hms 3 (by decide)
          have hst : rowK a n 4 = if n = 4 + 20 ∧ (2 : Int) < 4 then sg.without (if n = 4 then sg.withM x 8 else x) 8 else (if n = 4 then sg.withM x 8 else x) := by rw [← HX.out]; rfl
          have HT := Lib.hid hst; have HB := Lib.hid (mark_bound 8 (by omega) ha0 ha1)
          have HWI := Lib.hid (fun W => with_any x 8 W ha0 ha1 (by omega)); have HWO := Lib.hid (fun W => without_any x 8 W ha0 ha1 (by omega))
          clear hst hns hms
          by_cases e1 : n = 4
          · have b1 : (n == 4) = true := by simp [e1]
            have b2 : (n == 24) = false := by simp; omega
            have hv : rowK a n 4 = sg.withM x 8 := by rw [HT.out, if_neg (by omega), if_pos e1]
            have HV := Lib.hid hv
            clear hv e1
            go_wp2_with fail
            go_region_with (go_at_call 37; refine (HWI.out _).mono ?_; rintro e w' ⟨rfl, rfl⟩)
            all_goals
              go_wp2_with fail
              go_roundg (5 - 4)
              case measure => omega
              case rel => exact ⟨4, 4, rfl, rfl, by omega, Nat.le_refl _, Lib.hid (by rw [HV.out]; exact HW.out.set _), by rw [HV.out]; exact HB.out.1.1, by rw [HV.out]; exact HB.out.1.2⟩
          · have b1 : (n == 4) = false := by simpa using e1
            by_cases e2 : n = 24
            · have b2 : (n == 24) = true := by simp [e2]
              have hv : rowK a n 4 = sg.without x 8 := by rw [HT.out, if_pos ⟨by omega, by decide⟩, if_neg e1]
              have HV := Lib.hid hv
              clear hv e1 e2
              go_wp2_with fail
              go_region_with (go_at_call 38; refine (HWO.out _).mono ?_; rintro e w' ⟨rfl, rfl⟩)
              all_goals
                go_wp2_with fail
                go_roundg (5 - 4)
                case measure => omega
                case rel => exact ⟨4, 4, rfl, rfl, by omega, Nat.le_refl _, Lib.hid (by rw [HV.out]; exact HW.out.set _), by rw [HV.out]; exact HB.out.2.1, by rw [HV.out]; exact HB.out.2.2⟩
            · have b2 : (n == 24) = false := by simpa using e2
              have hv : rowK a n 4 = x := by rw [HT.out, if_neg (by omega), if_neg e1]
              have HV := Lib.hid hv
              clear hv e1 e2
              go_wp2_with fail
              go_roundg (5 - 4)
              case measure => omega
              case rel => exact ⟨4, 4, rfl, rfl, by omega, Nat.le_refl _, by rw [HV.out]; exact HW, by rw [HV.out]; exact ha0, by rw [HV.out]; exact ha1⟩
        · have hz2 : z = 4 := by omega
          clear hz; subst hz2
          have n0 : wr.cell? ⟨w.heap.size + 1 + 1, 4, none⟩ = some (.int .i64 7) := hns 4 (by decide)
          have m0 : wr.cell? ⟨w.heap.size + 1 + 1 + 1, 4, none⟩ = some (.int .i64 16) := hms 4 (by decide)
          have hst : rowK a n 5 = if n = 7 + 20 ∧ (2 : Int) < 7 then sg.without (if n = 7 then sg.withM x 16 else x) 16 else (if n = 7 then sg.withM x 16 else x) := by rw [← HX.out]; rfl
          have HT := Lib.hid hst; have HB := Lib.hid (mark_bound 16 (by omega) ha0 ha1)
          have HWI := Lib.hid (fun W => with_any x 16 W ha0 ha1 (by omega)); have HWO := Lib.hid (fun W => without_any x 16 W ha0 ha1 (by omega))
          clear hst hns hms
          by_cases e1 : n = 7
          · have b1 : (n == 7) = true := by simp [e1]
            have b2 : (n == 27) = false := by simp; omega
            have hv : rowK a n 5 = sg.withM x 16 := by rw [HT.out, if_neg (by omega), if_pos e1]
            have HV := Lib.hid hv
            clear hv e1
            go_wp2_with fail
            go_region_with (go_at_call 37; refine (HWI.out _).mono ?_; rintro e w' ⟨rfl, rfl⟩)
            all_goals
              go_wp2_with fail
              go_roundg (5 - 5)
              case measure => omega
              case rel => exact ⟨5, 5, rfl, rfl, by omega, Nat.le_refl _, Lib.hid (by rw [HV.out]; exact HW.out.set _), by rw [HV.out]; exact HB.out.1.1, by rw [HV.out]; exact HB.out.1.2⟩
          · have b1 : (n == 7) = false := by simpa using e1
            by_cases e2 : n = 27
            · have b2 : (n == 27) = true := by simp [e2]
              have hv : rowK a n 5 = sg.without x 16 := by rw [HT.out, if_pos ⟨by omega, by decide⟩, if_neg e1]
              have HV := Lib.hid hv
              clear hv e1 e2
              go_wp2_with fail
              go_region_with (go_at_call 38; refine (HWO.out _).mono ?_; rintro e w' ⟨rfl, rfl⟩)
              all_goals
                go_wp2_with fail
                go_roundg (5 - 5)
                case measure => omega
                case rel => exact ⟨5, 5, rfl, rfl, by omega, Nat.le_refl _, Lib.hid (by rw [HV.out]; exact HW.out.set _), by rw [HV.out]; exact HB.out.2.1, by rw [HV.out]; exact HB.out.2.2⟩
            · have b2 : (n == 27) = false := by simpa using e2
              have hv : rowK a n 5 = x := by rw [HT.out, if_neg (by omega), if_neg e1]
              have HV := Lib.hid hv
              clear hv e1 e2
              go_wp2_with fail
              go_roundg (5 - 5)
              case measure => omega
              case rel => exact ⟨5, 5, rfl, rfl, by omega, Nat.le_refl _, by rw [HV.out]; exact HW, by rw [HV.out]; exact ha0, by rw [HV.out]; exact ha1⟩
      · obtain rfl : k = 5 := by omega
        have hz2 : z = 5 := by omega
        clear hz; subst hz2
        generalize rowK a n 5 = x at *
        obtain ⟨l0, l1, l2, g0, g1, g2, u1⟩ := HW.out.out.cells
        clear hns hms hlt hgg hk
        by_cases h22 : n = 22
        · rw [if_pos h22] at HM
          subst h22
          have HWO := Lib.hid (fun W => without_any x 1 W ha0 ha1 (by omega))
          have hbd := (mark_bound 1 (by omega) ha0 ha1).2
          have HWO2 := Lib.hid (fun W => without_any (sg.without x 1) 2 W hbd.1 hbd.2 (by omega))
          clear hbd
          go_wp2_with fail
          refine (HWO.out _).mono ?_
          rintro e w' ⟨rfl, rfl⟩
          go_wp2_with fail
          refine (HWO2.out _).mono ?_
          rintro e w' ⟨rfl, rfl⟩
          go_wp2
          simp [bodyPost, results, Tryd.results24, go_sem, l0, l1, l2]
          refine ⟨?_, ?_⟩
          · rw [HR.out, ← HM.out]; exact ⟨rfl, rfl, rfl⟩
          · (repeat (refine Below.setCell ?_ (by first | exact Nat.le_refl _ | exact Nat.le_succ _) _)); exact HW.out.bel
        · rw [if_neg h22] at HM
          have b22 : (n == 22) = false := by simpa using h22
          clear h22
          go_wp2
          all_goals
            simp [bodyPost, results, Tryd.results24, go_sem, l0, l1, l2]
            refine ⟨?_, ?_⟩
            · rw [HR.out, ← HM.out]
              refine ⟨?_, ?_, ?_⟩ <;> first | rfl | (unfold sg.basic; simp only [beq_iff_eq, beq_eq_false_iff_ne, ne_eq] at *; (repeat' split) <;> omega)
            · (repeat (refine Below.setCell ?_ (by first | exact Nat.le_refl _ | exact Nat.le_succ _) _)); exact HW.out.bel
end Go.Proofs.YtkkgelobfefncaaDoor
