/- What the document's answers for many rectangles do: Same, Cut. -/
import Derived.Test.YtpmggljdcbbdfaaRef2
import Derived.Test.YtpmggljdcbbdfaaCutv
import Derived.Test.YtpmggljdcbbdfaaMath6
import Derived.OwnWalk
import Derived.BigQuiet
import Derived.WalkSmall
namespace Go.Proofs.Ytpmggljdcbbdfaa
open Go.RowKit rm
attribute [local go_sem ↓] Go.wp_at_zero Go.wp_at_succ
attribute [local go_sem ↓ 10000] run_mn run_mx

theorem run_ne_same (a b c d : Int) (w : World) :
    (binOp .neq 23 (.agg #[.int .i64 a, .int .i64 b, .int .i64 c, .int .i64 d]) (.agg #[.int .i64 a, .int .i64 b, .int .i64 c, .int .i64 d])).run Try.prog w = .ok (.bool false) w := by
  rw [run_ne_rr, eq4_self]; rfl

set_option maxHeartbeats 800000 in
/-- two slices with the same rectangles are the same -/
theorem refSame_any (L : List RR) (o1 o2 : Option Addr) (n c1 c2 : Nat) (w : World) (hl : L.length = n) (hn : n ≤ 16) (h1 : RowO w o1 L) (h2 : RowO w o2 L) :
    Calls Try.prog 26 #[.slice o1 n c1, .slice o2 n c2] w fun e w' => e = .returned (.bool true) ∧ Below w.heap.size w w' := by
  have z1 := eqg23
  have z3 := run_ne_same
  have HL := Lib.hid hl; clear hl
  have H1 := Lib.hid h1; clear h1
  have H2 := Lib.hid h2; clear h2
  have hnn : ((n : Int) == (n : Int)) = true := by simp
  have hne : ((n : Int) != (n : Int)) = false := by simp
  go_enter Try.func26, Try.ntmps26
  go_wp2_with fail
  go_loopg [5] n (fun gg s5 wr => ∃ k : Nat, s5 = .int .i64 k ∧ k ≤ n ∧ n - k ≤ gg ∧ Below w.heap.size w wr)
  case atStart => exact ⟨0, rfl, Nat.zero_le _, by omega, Below.refl _ _⟩
  case round =>
    obtain ⟨k, rfl, hk, hgg, hbel⟩ := hrel
    by_cases hlt : k < n
    · obtain ⟨r, hr⟩ : ∃ r, L[k]? = some r := ⟨_, List.getElem?_eq_getElem (by rw [HL.out]; exact hlt)⟩
      have hne0 : L ≠ [] := by rintro rfl; simp at hr
      obtain ⟨g1, rfl, hg1, hD1⟩ := H1.out.resolve_left hne0
      obtain ⟨g2, rfl, hg2, hD2⟩ := H2.out.resolve_left hne0
      have hq1 := (hD1 k r hr).keep (hbel.block g1 hg1)
      have hq2 := (hD2 k r hr).keep (hbel.block g2 hg2)
      clear hr hD1 hD2 hne0
      obtain ⟨k0, k1, k2, k3, _, _, _, _⟩ := hq1
      obtain ⟨l0, l1, l2, l3, _, _, _, _⟩ := hq2
      have hki : (k : Int) < (n : Int) := by omega
      go_wp2_with fail
      go_quiet (fail)
      have hbelD : Below w.heap.size w (wr.drewN nq) := below_drewN hbel nq
      go_wp2_with fail
      go_roundg (n - (k + 1))
      case measure => omega
      case rel => exact ⟨k + 1, by go_num, by omega, Nat.le_refl _, hbelD⟩
    · obtain rfl : k = n := by omega
      go_wp2_with fail
      go_ret
      exact ⟨rfl, hbel⟩

/-- within what there may be, as the document's answer keeps it -/
def Bx (r : RR) : Prop := (-5000 ≤ r.x ∧ r.x ≤ 5000) ∧ (-5000 ≤ r.y ∧ r.y ≤ 5000) ∧ (0 ≤ r.w ∧ r.w ≤ 200) ∧ (0 ≤ r.h ∧ r.h ≤ 200) ∧ r.x + r.w ≤ 5000 ∧ r.y + r.h ≤ 5000
/-- what is left of a rectangle, not cleaned, beside what is left of it, cleaned -/
def RelR (R A : RR) : Prop := Ok A ∧ Bx R ∧ (R = A ∨ (A = zero ∧ (R.w = 0 ∨ R.h = 0)))
theorem relR_self {A : RR} (h : Ok A) : RelR A A := ⟨h, by unfold Ok at h; unfold Bx; omega, .inl rfl⟩
theorem lead_zero (z : Int) (ac : Bool) : lead zero z ac = zero := by
  unfold lead
  cases ac
  · exact clean_neg ⟨0, 0, cl z 0 0, 0⟩ (.inr (Int.le_refl 0))
  · exact clean_neg ⟨0, 0, 0, cl z 0 0⟩ (.inl (Int.le_refl 0))
theorem remain_zero (z : Int) (ac : Bool) : remain zero z ac = zero := by
  unfold remain
  cases ac
  · exact clean_neg ⟨0 + cl z 0 0, 0, 0 - cl z 0 0, 0⟩ (.inr (Int.le_refl 0))
  · exact clean_neg ⟨0, 0 + cl z 0 0, 0, 0 - cl z 0 0⟩ (.inl (Int.le_refl 0))
theorem ref_down {R A : RR} (h : RelR R A) (z : Int) (n : Int) (hn : n = min (max z 0) R.h) :
    0 ≤ n ∧ n ≤ R.h ∧ cleanV R.x R.y R.w n = lead A z true ∧ RelR ⟨R.x, R.y + n, R.w, R.h - n⟩ (remain A z true) := by
  obtain ⟨hA, hb, hr⟩ := h
  have hb' := hb
  unfold Bx at hb'
  have hn0 : 0 ≤ n ∧ n ≤ R.h := by omega
  have hbx : Bx ⟨R.x, R.y + n, R.w, R.h - n⟩ := by unfold Bx; dsimp only; omega
  refine ⟨hn0.1, hn0.2, ?_⟩
  rcases hr with rfl | ⟨rfl, hz⟩
  · have hc : cl z 0 R.h = n := by unfold cl; omega
    have e1 : lead R z true = clean ⟨R.x, R.y, R.w, n⟩ := by unfold lead; rw [if_pos rfl, hc]
    have e2 : remain R z true = clean ⟨R.x, R.y + n, R.w, R.h - n⟩ := by unfold remain; rw [if_pos rfl, hc]
    refine ⟨e1.symm, ok_remain _ _ _, hbx, ?_⟩
    rw [e2]
    by_cases h0 : R.w = 0 ∨ R.h - n = 0
    · exact .inr ⟨clean_neg _ (by dsimp only; omega), h0⟩
    · exact .inl (clean_box_eq _ (by dsimp only; omega)).symm
  · refine ⟨?_, ok_remain _ _ _, hbx, .inr ⟨remain_zero _ _, ?_⟩⟩
    · rw [lead_zero]
      exact clean_neg _ (by dsimp only; omega)
    · dsimp only; omega
theorem ref_right {R A : RR} (h : RelR R A) (z : Int) (n : Int) (hn : n = min (max z 0) R.w) :
    0 ≤ n ∧ n ≤ R.w ∧ cleanV R.x R.y n R.h = lead A z false ∧ RelR ⟨R.x + n, R.y, R.w - n, R.h⟩ (remain A z false) := by
  obtain ⟨hA, hb, hr⟩ := h
  have hb' := hb
  unfold Bx at hb'
  have hn0 : 0 ≤ n ∧ n ≤ R.w := by omega
  have hbx : Bx ⟨R.x + n, R.y, R.w - n, R.h⟩ := by unfold Bx; dsimp only; omega
  refine ⟨hn0.1, hn0.2, ?_⟩
  rcases hr with rfl | ⟨rfl, hz⟩
  · have hc : cl z 0 R.w = n := by unfold cl; omega
    have e1 : lead R z false = clean ⟨R.x, R.y, n, R.h⟩ := by unfold lead; rw [if_neg (by decide), hc]
    have e2 : remain R z false = clean ⟨R.x + n, R.y, R.w - n, R.h⟩ := by unfold remain; rw [if_neg (by decide), hc]
    refine ⟨e1.symm, ok_remain _ _ _, hbx, ?_⟩
    rw [e2]
    by_cases h0 : R.w - n = 0 ∨ R.h = 0
    · exact .inr ⟨clean_neg _ (by dsimp only; omega), h0⟩
    · exact .inl (clean_box_eq _ (by dsimp only; omega)).symm
  · refine ⟨?_, ok_remain _ _ _, hbx, .inr ⟨remain_zero _ _, ?_⟩⟩
    · rw [lead_zero]
      exact clean_neg _ (by dsimp only; omega)
    · dsimp only; omega

theorem own_nothing (w : World) (o : Obj) : ((w.alloc o).alloc (.cells #[] 23)).ownsRow (w.heap.size + 1) 23 4 (.slice (some ⟨w.heap.size + 1, 0, none⟩) 0 0) 0 [] :=
  ⟨rfl, .inr ⟨w.heap.size + 1, 0, #[], rfl, Nat.le_refl _, by show ((w.heap.push o).push (.cells #[] 23))[w.heap.size + 1]? = _; rw [show w.heap.size + 1 = (w.heap.push o).size by simp, Array.getElem?_push_size], Nat.le_refl _, Nat.zero_le _, rfl, rfl⟩⟩

set_option maxRecDepth 100000 in
set_option maxHeartbeats 3200000 in
theorem refCut_own (q : RR) (hq : Ok q) (o : Option Addr) (n cap : Nat) (zs : List Int) (ac : Bool) (w : World) (hz : SliceZ w o n cap zs) :
    Calls Try.prog 28 #[(.agg #[.int .i64 (q).x, .int .i64 (q).y, .int .i64 (q).w, .int .i64 (q).h]), .slice o n cap, .bool ac] w fun e w' =>
      ∃ v, e = .returned v ∧ w'.ownsRow w.heap.size 23 4 v (min n 16) (flat (cutL ac q (zs.take 16))) ∧ Below w.heap.size w w' := by
  obtain ⟨i0, hi, hz0, hz1, hz2⟩ := info_parts info23
  have HSZ := Lib.hid hz; clear hz
  generalize hmm : min n 16 = m at *
  have hmlen : m ≤ n := by omega
  have hm16' : m ≤ 16 := by omega
  have HMM := Lib.hid hmm; clear hmm
  go_enter Try.func28, Try.ntmps28
  go_wp2_with fail
  have r1 := (RectAt.new w q.x q.y q.w q.h 23).alloc (.cells #[] 23)
  have own0 := own_nothing w (rc q.x q.y q.w q.h)
  have hW := ((Below.refl w.heap.size w).alloc (Nat.le_refl _) (rc q.x q.y q.w q.h)).alloc (by simp) (.cells #[] 23)
  generalize ((w.alloc (rc q.x q.y q.w q.h)).alloc (.cells #[] 23)) = W at *
  generalize hP7 : w.heap.size = P7 at *
  have HP7 := Lib.hid hP7; clear hP7
  have hzl : (zs.take 16).length = m := by rw [List.length_take, HSZ.out.len, ← HMM.out]; omega
  have HZ := Lib.hid hzl; clear hzl
  go_loopg [7, 8] m (fun gg v s8 wr => ∃ (k : Nat) (vv : Value) (R : RR), vv = v ∧ k ≤ m ∧ m - k ≤ gg ∧ s8 = .int .i64 k ∧ wr.ownsRow (P7 + 1) 23 4 vv k (flat (cutL ac q ((zs.take 16).take k))) ∧
      RelR R (cutR ac q ((zs.take 16).take k)) ∧ RectAt wr P7 R.x R.y R.w R.h ∧ Below P7 w wr)
  case atStart => exact ⟨0, _, q, rfl, Nat.zero_le _, by omega, rfl, own0, relR_self hq, r1, hW⟩
  case round =>
    obtain ⟨k, v, R, rfl, hk, hgg, rfl, hown, hrel', hr, hbel⟩ := hrel
    have hbx := hrel'.2.1
    unfold Bx at hbx
    have hszr : P7 ≤ wr.heap.size := by have := hbel.size; rw [HP7.out] at this; exact this
    by_cases hlt : k < m
    · have hkz : k < (zs.take 16).length := by rw [HZ.out]; exact hlt
      have htk := Lib.hid (take_snoc (zs.take 16) k hkz)
      have hget : (zs.take 16).getD k 0 = zs.getD k 0 := by simp only [List.getD, List.getElem?_take]; rw [if_pos (by omega)]
      have HG := Lib.hid hget; clear hget hkz
      obtain ⟨b, off, rfl, hb, hc⟩ : ∃ b off, o = some ⟨b, off, none⟩ ∧ b < P7 ∧ ∀ k, k < n → w.cell? ⟨b, off + k, none⟩ = some (.int .i64 (zs.getD k 0)) := by
        rcases HSZ.out.at_ with ⟨_, h0, _⟩ | ⟨b, off, h1, h2, h3⟩
        · exfalso; omega
        · exact ⟨b, off, h1, by rw [← HP7.out]; exact h2, h3⟩
      have hcell : wr.cell? ⟨b, off + k, none⟩ = some (.int .i64 (zs.getD k 0)) := (hbel.cell (p := ⟨b, off + k, none⟩) hb).trans (hc k (by omega))
      have hdown := fun (nn : Int) hn => ref_down hrel' (zs.getD k 0) nn hn
      have hright := fun (nn : Int) hn => ref_right hrel' (zs.getD k 0) nn hn
      have HDOWN := Lib.hid hdown; clear hdown
      have HRIGHT := Lib.hid hright; clear hright
      generalize hCR : cutR ac q ((zs.take 16).take k) = CR at *
      generalize hL : cutL ac q ((zs.take 16).take k) = L at *
      have HCR := Lib.hid hCR; clear hCR
      have HL := Lib.hid hL; clear hL
      have HREL := Lib.hid hrel'; clear hrel' hc
      obtain ⟨rx, ry, rw', rh⟩ := R
      dsimp only at hr hbx
      generalize hz' : zs.getD k 0 = z at *
      have HZ' := Lib.hid hz'; clear hz'
      obtain ⟨u0, k0, k1, k2, k3, f0, f1, f2, f3⟩ := (id hr : RectAt _ _ _ _ _ _)
      have hki : (k : Int) < (n : Int) := by omega
      have hki2 : (k : Int) < 16 := by omega
      go_wp2_with fail
      refine (refHigh_any _ _ _).mono ?_
      rintro e w1 ⟨rfl, rfl⟩
      generalize hM : max z 0 = M at *
      have HM := Lib.hid hM; clear hM
      cases ac
      · go_wp2_with fail
        refine (refLow_any _ _ _).mono ?_
        rintro e w1 ⟨rfl, rfl⟩
        obtain ⟨n0, n1, e1, e2⟩ := HRIGHT.out (min M rw') rfl
        generalize min M rw' = nn at *
        have E2 := Lib.hid e2; clear e2
        go_wp2_with fail
        refine (refClean_any _ _ _ _ _).mono ?_
        rw [e1]
        rintro e w2 ⟨rfl, hb2⟩
        clear e1
        generalize hP : lead CR z false = P at *
        have HP := Lib.hid hP; clear hP
        have hownlt := hown.lt
        have hne2 : v.ownBlock ≠ some P7 := fun e => by have := hownlt _ e; omega
        have q7 := hr.below hb2 hr.lt
        have hown2 := own_below hown hb2 (Nat.le_refl _)
        have hbel2 := hbel.trans (hb2.mono hszr)
        have hsz2 : P7 + 1 ≤ w2.heap.size := by have := hb2.size; omega
        have HN := Lib.hid (news_cells w2 P w2.heap.size rfl)
        have HO := Lib.hid hown2
        clear hr hown hbel hb2 hownlt hown2 k0 k1 k2 k3 f0 f1 f2 f3 u0 hcell
        obtain ⟨px, py, pw, ph⟩ := P
        dsimp only
        go_wp2_with (at_builtin; refine wpList_append_own _ rfl (.tmp 60) (.tmp 70) 36 rfl (P7 + 1) 23 i0 _ 4 32 Try.underlying36 hi hz0 hz1 hz2 rfl (by decide) _ k _ rfl (HO.out.alloc _) ⟨w2.heap.size, 0, none⟩ 1 1 (encR ⟨px, py, pw, ph⟩) rfl rfl HN.out (encR_one _) (by unfold maxLen; omega) (by omega) (Nat.le_trans hsz2 (by simp)) ?_; intro v' w' hown' hgrow _; have z7 := (q7.alloc (rc px py pw ph)).grown hgrow (fun e => hne2 e.symm); obtain ⟨u0, k0, k1, k2, k3, f0, f1, f2, f3⟩ := (id z7 : RectAt _ _ _ _ _ _))
        have hbelF := (hbel2.alloc (by omega) (rc px py pw ph)).grown hgrow (Nat.le_trans (Nat.le_of_succ_le hsz2) (by simp)) (fun kk hkk => by have := HO.out.lt kk hkk; omega)
        have hne3 : v'.ownBlock ≠ some P7 := fun e => by have := hown'.lt _ e; omega
        go_roundg (m - (k + 1))
        case measure => omega
        case rel =>
          refine ⟨k + 1, v', ⟨rx + nn, ry, rw' - nn, rh⟩, rfl, by omega, Nat.le_refl _, by go_num, ?_, ?_, z7.put _ _ _ _, below_put hbelF (Nat.le_refl _) _ _ _ _⟩
          · rw [htk.out, cutL_snoc, HL.out, HCR.out, HG.out, HP.out, flat_snoc]; exact own_put hown' hne3 _ _ _ _
          · rw [htk.out, cutR_snoc, HCR.out, HG.out]; exact E2.out
      · go_wp2_with fail
        refine (refLow_any _ _ _).mono ?_
        rintro e w1 ⟨rfl, rfl⟩
        obtain ⟨n0, n1, e1, e2⟩ := HDOWN.out (min M rh) rfl
        generalize min M rh = nn at *
        have E2 := Lib.hid e2; clear e2
        go_wp2_with fail
        refine (refClean_any _ _ _ _ _).mono ?_
        rw [e1]
        rintro e w2 ⟨rfl, hb2⟩
        clear e1
        generalize hP : lead CR z true = P at *
        have HP := Lib.hid hP; clear hP
        have hownlt := hown.lt
        have hne2 : v.ownBlock ≠ some P7 := fun e => by have := hownlt _ e; omega
        have q7 := hr.below hb2 hr.lt
        have hown2 := own_below hown hb2 (Nat.le_refl _)
        have hbel2 := hbel.trans (hb2.mono hszr)
        have hsz2 : P7 + 1 ≤ w2.heap.size := by have := hb2.size; omega
        have HN := Lib.hid (news_cells w2 P w2.heap.size rfl)
        have HO := Lib.hid hown2
        clear hr hown hbel hb2 hownlt hown2 k0 k1 k2 k3 f0 f1 f2 f3 u0 hcell
        obtain ⟨px, py, pw, ph⟩ := P
        dsimp only
        go_wp2_with (at_builtin; refine wpList_append_own _ rfl (.tmp 31) (.tmp 41) 36 rfl (P7 + 1) 23 i0 _ 4 32 Try.underlying36 hi hz0 hz1 hz2 rfl (by decide) _ k _ rfl (HO.out.alloc _) ⟨w2.heap.size, 0, none⟩ 1 1 (encR ⟨px, py, pw, ph⟩) rfl rfl HN.out (encR_one _) (by unfold maxLen; omega) (by omega) (Nat.le_trans hsz2 (by simp)) ?_; intro v' w' hown' hgrow _; have z7 := (q7.alloc (rc px py pw ph)).grown hgrow (fun e => hne2 e.symm); obtain ⟨u0, k0, k1, k2, k3, f0, f1, f2, f3⟩ := (id z7 : RectAt _ _ _ _ _ _))
        have hbelF := (hbel2.alloc (by omega) (rc px py pw ph)).grown hgrow (Nat.le_trans (Nat.le_of_succ_le hsz2) (by simp)) (fun kk hkk => by have := HO.out.lt kk hkk; omega)
        have hne3 : v'.ownBlock ≠ some P7 := fun e => by have := hown'.lt _ e; omega
        go_roundg (m - (k + 1))
        case measure => omega
        case rel =>
          refine ⟨k + 1, v', ⟨rx, ry + nn, rw', rh - nn⟩, rfl, by omega, Nat.le_refl _, by go_num, ?_, ?_, z7.put _ _ _ _, below_put hbelF (Nat.le_refl _) _ _ _ _⟩
          · rw [htk.out, cutL_snoc, HL.out, HCR.out, HG.out, HP.out, flat_snoc]; exact own_put hown' hne3 _ _ _ _
          · rw [htk.out, cutR_snoc, HCR.out, HG.out]; exact E2.out
    · obtain rfl : k = m := by omega
      have e16 : (zs.take 16).take k = zs.take 16 := List.take_of_length_le (by rw [HZ.out]; exact Nat.le_refl _)
      rw [e16] at hown
      have HO := Lib.hid hown
      clear hown e16 hrel' hbx
      by_cases hk16 : k < 16
      · obtain rfl : k = n := by have := HMM.out; omega
        have hki2 : (k : Int) < 16 := by omega
        go_wp2_with fail
        go_ret
        exact ⟨v, rfl, own_mono (b := P7 + 1) HO.out (by have := HP7.out; omega), by rw [HP7.out]; exact hbel⟩
      · obtain rfl : k = 16 := by omega
        rcases Nat.lt_or_ge 16 n with hn16 | hn16
        · have hki : (16 : Int) < (n : Int) := by omega
          go_wp2_with fail
          go_ret
          exact ⟨v, rfl, own_mono (b := P7 + 1) HO.out (by have := HP7.out; omega), by rw [HP7.out]; exact hbel⟩
        · obtain rfl : n = 16 := by omega
          go_wp2_with fail
          go_ret
          exact ⟨v, rfl, own_mono (b := P7 + 1) HO.out (by have := HP7.out; omega), by rw [HP7.out]; exact hbel⟩

theorem rowO_of_own {w : World} {base m : Nat} {v : Value} {L : List RR} (h : w.ownsRow base 23 4 v m (flat L)) (hl : L.length = m) : ∃ o cap, v = .slice o m cap ∧ RowO w o L := by
  by_cases h0 : m = 0
  · subst h0
    rcases h.2 with ⟨hv, _⟩ | ⟨g, cap', cur, hv, _⟩
    · exact ⟨_, _, hv, .inl (List.eq_nil_of_length_eq_zero hl)⟩
    · exact ⟨_, _, hv, .inl (List.eq_nil_of_length_eq_zero hl)⟩
  · obtain ⟨g, cap', rfl, _, hlt⟩ := h.form (by omega)
    refine ⟨_, cap', rfl, .inr ⟨g, rfl, hlt, ?_⟩⟩
    refine row_of_own (cap := cap') (base := base) (e := 23) ?_
    rw [hl]
    exact h
theorem refCut_v (q : RR) (hq : Ok q) (o : Option Addr) (n cap : Nat) (zs : List Int) (ac : Bool) (w : World) (hz : SliceZ w o n cap zs) :
    Calls Try.prog 28 #[(.agg #[.int .i64 (q).x, .int .i64 (q).y, .int .i64 (q).w, .int .i64 (q).h]), .slice o n cap, .bool ac] w fun e w' =>
      ∃ o' cap', e = .returned (.slice o' (min n 16) cap') ∧ RowO w' o' (cutL ac q (zs.take 16)) ∧ Below w.heap.size w w' :=
  (refCut_own q hq o n cap zs ac w hz).mono fun e w' ⟨v, he, ho, hb⟩ => by
    obtain ⟨o', cap', rfl, hr⟩ := rowO_of_own ho (by rw [cutL_length, List.length_take, hz.len]; omega)
    exact ⟨o', cap', he, hr, hb⟩
end Go.Proofs.Ytpmggljdcbbdfaa
