/- RectCells returns true for every two rectangles and every two numbers, in every memory, and leaves everything that was there as it was. No condition. -/
import Derived.Test.YtpmggljdcbbdfaaHold
import Derived.Test.YtpmggljdcbbdfaaMath5
namespace Go.Proofs.Ytpmggljdcbbdfaa
open Go.ChangeShapes Go.WideShapes Go.ChangeAt Go.RowKit rm
attribute [local go_sem ↓] Go.wp_at_zero Go.wp_at_succ
attribute [local go_sem ↓ 10000] run_mn run_mx

theorem one_count (px py rx ry rw' rh : Int) : List.countP (hasC px py) [(⟨rx, ry, rw', rh⟩ : RR)] = if hasV rx ry rw' rh px py = true then 1 else 0 := by
  rw [List.countP_cons, List.countP_nil, Nat.zero_add]
  rfl

theorem met_has (x y ww h x' y' ww' h' px py : Int) : hasV (meetV x y ww h x' y' ww' h').x (meetV x y ww h x' y' ww' h').y (meetV x y ww h x' y' ww' h').w (meetV x y ww h x' y' ww' h').h px py = (hasV x y ww h px py && hasV x' y' ww' h' px py) := by
  show cell (clean (meet _ _)) px py = (cell (clean _) px py && cell (clean _) px py)
  rw [clean_ok (ok_meet _ _), meet_cell (ok_clean _) (ok_clean _)]
theorem hull_self (x y ww h x' y' ww' h' px py : Int) : hasV (hullV x y ww h x' y' ww' h').x (hullV x y ww h x' y' ww' h').y (hullV x y ww h x' y' ww' h').w (hullV x y ww h x' y' ww' h').h px py = cell (hullV x y ww h x' y' ww' h') px py := by
  show cell (clean (hull _ _)) px py = cell (hull _ _) px py
  rw [clean_ok (ok_hull (ok_clean _) (ok_clean _))]
theorem hull_has (x y ww h x' y' ww' h' px py : Int) (h1 : (hullV x y ww h x' y' ww' h').w ≠ 200) (h2 : (hullV x y ww h x' y' ww' h').h ≠ 200) : hasV x y ww h px py = true ∨ hasV x' y' ww' h' px py = true → cell (hullV x y ww h x' y' ww' h') px py = true :=
  fun h0 => hull_cell (ok_clean _) (ok_clean _) px py h1 h2 h0

set_option maxRecDepth 100000 in
set_option maxHeartbeats 1600000 in
theorem cells_walk (x y ww h x' y' ww' h' px py : Int) (_ : I64 x) (_ : I64 y) (_ : I64 ww) (_ : I64 h) (_ : I64 x') (_ : I64 y') (_ : I64 ww') (_ : I64 h') (_ : I64 px) (_ : I64 py) (w : World) :
    Calls Try.prog 6 #[(.agg #[.int .i64 x, .int .i64 y, .int .i64 ww, .int .i64 h]), (.agg #[.int .i64 x', .int .i64 y', .int .i64 ww', .int .i64 h']), .int .i64 px, .int .i64 py] w fun e w' => e = .returned (.bool true) ∧ Below w.heap.size w w' := by
  have z1 := eqg23
  have z2 := run_eq_rr
  have z3 := run_ne_rr
  have z4 := eq4_self
  go_enter Try.func6, Try.ntmps6
  go_wp2_with fail
  obtain ⟨r0, r1, hbW⟩ := boxes2 w x y ww h x' y' ww' h'
  generalize ((w.alloc (rc x y ww h)).alloc (rc x' y' ww' h')) = W at *
  refine (alive_any _).mono ?_
  rintro e w1 ⟨rfl, hb1⟩
  have hW := hbW.trans (hb1.mono (Nat.le_of_lt r0.lt))
  replace r0 := r0.below hb1 r0.lt
  replace r1 := r1.below hb1 r1.lt
  have s0 : (Below w.heap.size w w1 ∧ w.heap.size < w1.heap.size ∧ (w.heap.size + 1) < w1.heap.size ∧ w1.cell? ⟨w.heap.size, 0, none⟩ = some (.int .i64 (x)) ∧ w1.cell? ⟨w.heap.size, 1, none⟩ = some (.int .i64 (y)) ∧ w1.cell? ⟨w.heap.size, 2, none⟩ = some (.int .i64 (ww)) ∧ w1.cell? ⟨w.heap.size, 3, none⟩ = some (.int .i64 (h)) ∧ w1.cell? ⟨(w.heap.size + 1), 0, none⟩ = some (.int .i64 ((⟨x', y', ww', h'⟩ : RR)).x) ∧ w1.cell? ⟨(w.heap.size + 1), 1, none⟩ = some (.int .i64 ((⟨x', y', ww', h'⟩ : RR)).y) ∧ w1.cell? ⟨(w.heap.size + 1), 2, none⟩ = some (.int .i64 ((⟨x', y', ww', h'⟩ : RR)).w) ∧ w1.cell? ⟨(w.heap.size + 1), 3, none⟩ = some (.int .i64 ((⟨x', y', ww', h'⟩ : RR)).h)) := ⟨hW, r0.lt, r1.lt, r0.k0, r0.k1, r0.k2, r0.k3, r1.k0, r1.k1, r1.k2, r1.k3⟩
  clear hb1 hbW hW r0 r1
  go_upto_region 3 with fail
  go_cut [9, 10] (fun s9 s10 w' => s9 = .bool (hasV x y ww h px py) ∧ s10 = .bool (hasV x' y' ww' h' px py) ∧ (Below w.heap.size w w' ∧ w.heap.size < w'.heap.size ∧ (w.heap.size + 1) < w'.heap.size ∧ w'.cell? ⟨w.heap.size, 0, none⟩ = some (.int .i64 (x)) ∧ w'.cell? ⟨w.heap.size, 1, none⟩ = some (.int .i64 (y)) ∧ w'.cell? ⟨w.heap.size, 2, none⟩ = some (.int .i64 (ww)) ∧ w'.cell? ⟨w.heap.size, 3, none⟩ = some (.int .i64 (h)) ∧ w'.cell? ⟨(w.heap.size + 1), 0, none⟩ = some (.int .i64 ((⟨x', y', ww', h'⟩ : RR)).x) ∧ w'.cell? ⟨(w.heap.size + 1), 1, none⟩ = some (.int .i64 ((⟨x', y', ww', h'⟩ : RR)).y) ∧ w'.cell? ⟨(w.heap.size + 1), 2, none⟩ = some (.int .i64 ((⟨x', y', ww', h'⟩ : RR)).w) ∧ w'.cell? ⟨(w.heap.size + 1), 3, none⟩ = some (.int .i64 ((⟨x', y', ww', h'⟩ : RR)).h)))
  case first =>
    replace s0 := hold2 (Below.refl _ _).drew s0
    obtain ⟨t0, t1, t2, k0, k1, k2, k3, l0, l1, l2, l3⟩ := (id s0 : _ ∧ _)
    go_region_held3 (fun w' => (Below w.heap.size w w' ∧ w.heap.size < w'.heap.size ∧ (w.heap.size + 1) < w'.heap.size ∧ w'.cell? ⟨w.heap.size, 0, none⟩ = some (.int .i64 (x)) ∧ w'.cell? ⟨w.heap.size, 1, none⟩ = some (.int .i64 (y)) ∧ w'.cell? ⟨w.heap.size, 2, none⟩ = some (.int .i64 (ww)) ∧ w'.cell? ⟨w.heap.size, 3, none⟩ = some (.int .i64 (h)) ∧ w'.cell? ⟨(w.heap.size + 1), 0, none⟩ = some (.int .i64 ((⟨x', y', ww', h'⟩ : RR)).x) ∧ w'.cell? ⟨(w.heap.size + 1), 1, none⟩ = some (.int .i64 ((⟨x', y', ww', h'⟩ : RR)).y) ∧ w'.cell? ⟨(w.heap.size + 1), 2, none⟩ = some (.int .i64 ((⟨x', y', ww', h'⟩ : RR)).w) ∧ w'.cell? ⟨(w.heap.size + 1), 3, none⟩ = some (.int .i64 ((⟨x', y', ww', h'⟩ : RR)).h))) (first | exact s0 | assumption | exact hold2 (by assumption) (by assumption))
      (first
        | (go_at_call 20; refine (has_v _ _ _ _ _ _ _).mono ?_; rintro e wn ⟨rfl, hbn⟩))
    go_wp2_with fail
    go_meet
    exact ⟨rfl, rfl, by assumption⟩
  case rest =>
  clear s0
  obtain ⟨rfl, rfl, s0⟩ := hcut
  generalize wc = W3 at *
  generalize hP : hasV x y ww h px py = P at *
  have HP := Lib.hid hP; clear hP
  generalize hQ : hasV x' y' ww' h' px py = Q at *
  have HQ := Lib.hid hQ; clear hQ
  obtain ⟨t0, t1, t2, k0, k1, k2, k3, l0, l1, l2, l3⟩ := (id s0 : _ ∧ _)
  go_wp2_with fail
  refine (minus_any _ _ _ _ _ _ _ _ _).mono ?_
  rintro e w4 ⟨g, cap, rfl, hRow, hg0, hg, hb4⟩
  replace s0 := hold2 hb4 s0
  clear t0 t1 t2 k0 k1 k2 k3 l0 l1 l2 l3 hb4 hg0
  have hlen := minus_len ⟨x, y, ww, h⟩ ⟨x', y', ww', h'⟩
  have hcnt := minus_count ⟨x, y, ww, h⟩ ⟨x', y', ww', h'⟩ px py
  generalize minus ⟨x, y, ww, h⟩ ⟨x', y', ww', h'⟩ = L at *
  have HCNT := Lib.hid hcnt; clear hcnt
  generalize hn : L.length = n at *
  have HN := Lib.hid hn; clear hn
  have HD := Lib.hid hRow; clear hRow
  have HS := Lib.hid s0; clear s0
  go_wp2_with fail
  go_loopg [11, 29] n (fun gg s11 i wr => ∃ (k c : Nat), k ≤ n ∧ n - k ≤ gg ∧ i = .int .i64 k ∧ s11 = .int .i64 c ∧ c ≤ k ∧ Hid ((L.take k).countP (hasC px py) = c) ∧ Below w4.heap.size w4 wr)
  case atStart => exact ⟨0, 0, Nat.zero_le _, by omega, rfl, rfl, Nat.le_refl _, Lib.hid rfl, Below.refl _ _⟩
  case round =>
    obtain ⟨k, c, hk, hgg, rfl, rfl, hck, hcov, hbel⟩ := hrel
    by_cases hlt : k < n
    · obtain ⟨r, hr⟩ : ∃ r, L[k]? = some r := ⟨_, List.getElem?_eq_getElem (by rw [HN.out]; exact hlt)⟩
      have HR := Lib.hid hr; clear hr
      have hq := (HD.out k r HR.out).keep (hbel.block g hg)
      obtain ⟨rx, ry, rw', rh⟩ := r
      obtain ⟨k0, k1, k2, k3, f0, f1, f2, f3⟩ := hq
      dsimp only at k0 k1 k2 k3
      have hbel1 := hbel.alloc hbel.size (rc rx ry rw' rh)
      have hN := hbel.size
      go_wp2_with fail
      obtain ⟨bz, hbz⟩ : ∃ bz, bz = hasV rx ry rw' rh px py := ⟨_, rfl⟩
      refine (has_v _ _ _ _ _ _ _).mono ?_
      rintro e w2 ⟨rfl, hb2⟩
      rw [← hbz]
      have HB := Lib.hid hbz; clear hbz
      have hsz : (wr.alloc (rc rx ry rw' rh)).heap.size = wr.heap.size + 1 := by simp
      have hbel2 := hbel1.trans (hb2.mono (by rw [hsz]; omega))
      clear k0 k1 k2 k3 f0 f1 f2 f3 hbel hbel1 hb2 hsz
      have hts : L.take (k + 1) = L.take k ++ [⟨rx, ry, rw', rh⟩] := by
        obtain ⟨h1, h2⟩ := List.getElem?_eq_some_iff.1 HR.out
        rw [List.take_succ_eq_append_getElem h1, h2]
      have HTS := Lib.hid hts; clear hts
      cases bz
      · go_wp2_with fail
        go_roundg (n - (k + 1))
        case measure => omega
        case rel => exact ⟨k + 1, c, by omega, Nat.le_refl _, by go_num, rfl, by omega, Lib.hid (by rw [HTS.out, List.countP_append, hcov.out, one_count, ← HB.out]; rfl), hbel2⟩
      · go_wp2_with fail
        go_roundg (n - (k + 1))
        case measure => omega
        case rel => exact ⟨k + 1, c + 1, by omega, Nat.le_refl _, by go_num, by go_num, by omega, Lib.hid (by rw [HTS.out, List.countP_append, hcov.out, one_count, ← HB.out]; rfl), hbel2⟩
    · obtain rfl : k = n := by omega
      have hc := hcov.out
      rw [List.take_of_length_le (by rw [HN.out]; exact Nat.le_refl _), HCNT.out] at hc
      have s0 := hold2 hbel HS.out
      have hV : hasV (meetV x y ww h x' y' ww' h').x (meetV x y ww h x' y' ww' h').y (meetV x y ww h x' y' ww' h').w (meetV x y ww h x' y' ww' h').h px py = (P && Q) := by rw [← HP.out, ← HQ.out]; exact met_has x y ww h x' y' ww' h' px py
      have hc' : c = if (P && !Q) = true then 1 else 0 := by rw [← HP.out, ← HQ.out]; exact hc.symm
      clear hc hcov hgg hlt
      have HV := Lib.hid hV; clear hV
      have HC' := Lib.hid hc'; clear hc'
      obtain ⟨t0, t1, t2, k0, k1, k2, k3, l0, l1, l2, l3⟩ := (id s0 : _ ∧ _)
      go_upto_region 11 with fail
      go_cut [64] (fun s64 w' => s64 = .bool false ∧ (Below w.heap.size w w' ∧ w.heap.size < w'.heap.size ∧ (w.heap.size + 1) < w'.heap.size ∧ w'.cell? ⟨w.heap.size, 0, none⟩ = some (.int .i64 (x)) ∧ w'.cell? ⟨w.heap.size, 1, none⟩ = some (.int .i64 (y)) ∧ w'.cell? ⟨w.heap.size, 2, none⟩ = some (.int .i64 (ww)) ∧ w'.cell? ⟨w.heap.size, 3, none⟩ = some (.int .i64 (h)) ∧ w'.cell? ⟨(w.heap.size + 1), 0, none⟩ = some (.int .i64 ((⟨x', y', ww', h'⟩ : RR)).x) ∧ w'.cell? ⟨(w.heap.size + 1), 1, none⟩ = some (.int .i64 ((⟨x', y', ww', h'⟩ : RR)).y) ∧ w'.cell? ⟨(w.heap.size + 1), 2, none⟩ = some (.int .i64 ((⟨x', y', ww', h'⟩ : RR)).w) ∧ w'.cell? ⟨(w.heap.size + 1), 3, none⟩ = some (.int .i64 ((⟨x', y', ww', h'⟩ : RR)).h)))
      case first =>
        cases P <;> cases Q
        all_goals
          have hV := HV.out
          have hc' := HC'.out
          clear HV HC'
          simp only [Bool.and_true, Bool.and_false, Bool.not_true, Bool.not_false, if_true, if_false, Bool.false_eq_true] at hV hc'
          subst hc'
          go_wp2_with (first
            | (go_at_call 32; refine (meet_v _ _ _ _ _ _ _ _ _).mono ?_; rintro e wa ⟨rfl, hba⟩; have sa := hold2 hba s0)
            | (go_at_call 20; refine (has_v _ _ _ _ _ _ _).mono ?_; rw [hV]; rintro e wb ⟨rfl, hbb⟩; have sb := hold2 hbb sa))
          go_meet
          exact ⟨rfl, sb⟩
      case rest =>
      obtain ⟨rfl, s1⟩ := hcut
      clear s0 t0 t1 t2 k0 k1 k2 k3 l0 l1 l2 l3
      generalize wc = W5 at *
      obtain ⟨t0, t1, t2, k0, k1, k2, k3, l0, l1, l2, l3⟩ := (id s1 : _ ∧ _)
      go_wp2_with fail
      refine (hull_v _ _ _ _ _ _ _ _ _).mono ?_
      rintro e w6 ⟨rfl, hb6⟩
      have hH : hasV (hullV x y ww h x' y' ww' h').x (hullV x y ww h x' y' ww' h').y (hullV x y ww h x' y' ww' h').w (hullV x y ww h x' y' ww' h').h px py = cell (hullV x y ww h x' y' ww' h') px py := hull_self x y ww h x' y' ww' h' px py
      have hI := hull_has x y ww h x' y' ww' h' px py
      rw [HP.out, HQ.out] at hI
      generalize (hullV x y ww h x' y' ww' h') = H at *
      have s2 := hold2 hb6 s1
      clear s1 hb6 t0 t1 t2 k0 k1 k2 k3 l0 l1 l2 l3
      have t0 := s2.1.alloc s2.1.size (rc H.x H.y H.w H.h)
      obtain ⟨t1, n0, n1, n2, n3, _, _, _, _⟩ := RectAt.new w6 H.x H.y H.w H.h 23
      go_upto_region 14 with fail
      generalize w6.alloc (rc H.x H.y H.w H.h) = W7 at *
      generalize w6.heap.size = B7 at *
      by_cases g1 : H.w = 200
      · replace g1 : (H.w == 200) = true := by simp [g1]
        go_wp2_with fail
        go_ret
        exact ⟨rfl, t0⟩
      · have g1' : (H.w == 200) = false := by simp [g1]
        by_cases g2 : H.h = 200
        · replace g2 : (H.h == 200) = true := by simp [g2]
          have G1 := Lib.hid g1; clear g1
          go_wp2_with fail
          go_ret
          exact ⟨rfl, t0⟩
        · have g2' : (H.h == 200) = false := by simp [g2]
          have hJ := hI g1 g2
          clear hI g1 g2
          cases hU : cell H px py
          · rw [hU] at hJ
            obtain rfl : P = false := by cases P <;> simp_all
            obtain rfl : Q = false := by cases Q <;> simp_all
            clear hJ
            go_wp2_with (go_at_call 20; refine (has_v _ _ _ _ _ _ _).mono ?_; rw [hH, hU]; rintro e wb ⟨rfl, hbb⟩)
            go_ret
            exact ⟨rfl, t0.trans (hbb.mono t0.size)⟩
          · clear hJ
            go_wp2_with (go_at_call 20; refine (has_v _ _ _ _ _ _ _).mono ?_; rw [hH, hU]; rintro e wb ⟨rfl, hbb⟩)
            go_ret
            exact ⟨rfl, t0.trans (hbb.mono t0.size)⟩

set_option maxRecDepth 100000 in
theorem rectCells_lifted (os : Os) (started : os.Started) (H : Type) (enc : TypeId × Value → H) :
    ReturnsInHanded {} Try.checked os 6 .any (Rows.rectCellsSpec.pre6 enc Try.prog Try.f6 Rows.rectCellsRow.domain false) (Rows.rectCellsSpec.post enc Try.prog Try.f6 false true false false) := by
  refine returnsInHanded_of_change (C := Try.checked) own started (by kernel_rfl) Try.func6
    (ChangeSpec.witness6 (enc := enc) (C := Try.checked) false ⟨#[], #[(.agg #[.int .i64 0, .int .i64 0, .int .i64 0, .int .i64 0]), (.agg #[.int .i64 0, .int .i64 0, .int .i64 0, .int .i64 0]), .int .i64 0, .int .i64 0], []⟩ 8 (by kernel_rfl) (by kernel_rfl) (by kernel_rfl) (by kernel_rfl)) ?_
  intro W base args ds gs before hval0 hW hcnd _
  have hval : ∀ (j : Nat) t v, Try.f6.params[j]? = some t → args[j]? = some v → Value.okWide Try.prog W .any base t v := hval0
  have hW' := hW
  obtain ⟨p, q, hA0, hV, rfl, hfz, hnd⟩ := hW
  have hA : DataW.TrodAll enc Try.prog W 0 (fun _ => true) true Try.f6.params.toList args.toList ds p := hA0
  obtain ⟨rfl, rfl⟩ := trodVars_none hV
  simp only [List.append_nil] at hW'
  have hlt : ∀ x ∈ p, x.block < W.heap.size := fun x hx => by simpa using hW'.lt x hx
  rw [Try.params6] at hA hval
  have hargs := fun W' (hb : Below W.heap.size W W') => args_below (enc := enc) hb _ _ _ _ (show TsOk [23, 23, 3, 3] from ⟨okRect, ⟨okRect, ⟨okInt, ⟨okInt, trivial⟩⟩⟩⟩) hlt hA
  obtain ⟨v0, vs0, d0, ds0, p0, q0, hargs0, rfl, rfl, h0, r0⟩ := trodAll_cons hA
  obtain ⟨v1, vs1, d1, ds1, p1, q1, rfl, rfl, rfl, h1, r1⟩ := trodAll_cons r0
  obtain ⟨v2, vs2, d2, ds2, p2, q2, rfl, rfl, rfl, h2, r2⟩ := trodAll_cons r1
  obtain ⟨v3, vs3, d3, ds3, p3, q3, rfl, rfl, rfl, h3, r3⟩ := trodAll_cons r2
  obtain ⟨rfl, rfl, rfl⟩ := trodAll_nil r3
  obtain rfl : args = #[v0, v1, v2, v3] := by cases args; simp_all
  obtain ⟨x0, y0, ww0, hh0, rfl, fx0, fy0, fw0, fh0⟩ := open_rect (hval 0 23 v0 rfl rfl) h0
  obtain ⟨x1, y1, ww1, hh1, rfl, fx1, fy1, fw1, fh1⟩ := open_rect (hval 1 23 v1 rfl rfl) h1
  obtain ⟨a2, rfl, rfl, rfl, w2⟩ := open_int Try.underlying3 (hval 2 3 v2 rfl rfl) h2
  obtain ⟨a3, rfl, rfl, rfl, w3⟩ := open_int Try.underlying3 (hval 3 3 v3 rfl rfl) h3
  clear hA0 hval0
  refine (cells_walk x0 y0 ww0 hh0 x1 y1 ww1 hh1 a2 a3 fx0 fy0 fw0 fh0 fx1 fy1 fw1 fh1 (i64_of_wf w2) (i64_of_wf w3) W).mono fun e W' ⟨he, hb⟩ => ?_
  subst he
  exact ⟨_, rfl, _, _, _, [], _, [], hW', trodAll_mk1 (shut_bool Try.underlying4 _), hargs W' hb, rfl, hb.frame _, fun h => by cases h⟩

theorem rectCells_holds : Rows.RectCellsSaid :=
  OpenClaim.holds_of_wide 6 Try.f6 rfl rfl rfl rfl rfl rfl rfl ⟨rfl, rfl, rfl, rfl, rfl⟩ rfl rfl rfl rfl rfl (by kernel_rfl) Try.func6 (by kernel_rfl)
    (of_decide_eq_true (by kernel_rfl)) (by unfold Func.isWrapper; first | (rw [if_pos (by decide +kernel)]; kernel_rfl) | (rw [if_neg (by decide +kernel)]; exact ⟨rfl, rfl⟩))
    (fun os started H enc _ => rectCells_lifted os started H enc)

end Go.Proofs.Ytpmggljdcbbdfaa
