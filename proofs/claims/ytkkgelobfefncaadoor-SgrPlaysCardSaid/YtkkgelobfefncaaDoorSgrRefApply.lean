/- The document's Apply. -/
import Derived.Test.YtkkgelobfefncaaDoorSgrRefOne
import Derived.Deep.DeepCutAuto
namespace Go.Proofs.YtkkgelobfefncaaDoor
open Go.RowKit

set_option maxRecDepth 100000 in
theorem run_slo_s (o : Option Addr) (n cap : Nat) (k : IntKind) (l : Nat) (hl : l + 1 ≤ n) (wx : World) : (Instr.slice 24 (.slice o n cap) (some (.int k ((l : Int) + 1))) none none).run Tryd.prog wx = .ok (.slice (slo o cap (l + 1)) (n - (l + 1)) (cap - (l + 1))) wx := by
  have := run_slo o n cap k (l + 1) (by omega) wx
  rw [← this]
  norm_cast
attribute [local go_sem ↓ 10000] run_slo_s
/-- a round of the document's Apply -/
structure RoundR (w wr : World) (B : Nat) (L : List Int) (k : Nat) (s R : sg.St) : Prop where
  st : StAt wr B s
  out : StAt wr (B + 1) sg.zero
  rt : sg.right s = true
  go : sg.go s (L.drop k) = R
  bel : Below B w wr
theorem drop_cons (L : List Int) (k : Nat) (h : k < L.length) : L.drop k = L.getD k 0 :: L.drop (k + 1) := by
  rw [List.drop_eq_getElem_cons h]; simp [List.getD, h]
/-- what stands behind a 38 or a 48 -/
theorem shapes (r : List Int) : (∃ b t, r = 5 :: b :: t) ∨ (∃ b1 b2 b3 t, r = 2 :: b1 :: b2 :: b3 :: t) ∨ ((∀ c, sg.ext c r = (c, [])) ∧ (r.length < 2 ∨ (2 ≤ r.length ∧ r.length < 4 ∧ (r.getD 0 0 == 5) = false) ∨ (4 ≤ r.length ∧ (r.getD 0 0 == 5) = false ∧ (r.getD 0 0 == 2) = false))) := by
  match r with
  | [] => exact .inr (.inr ⟨fun c => rfl, .inl (by simp)⟩)
  | [x] =>
    refine .inr (.inr ⟨fun c => ?_, .inl (by simp)⟩)
    simp only [sg.ext]
    rw [if_pos (by rcases sg.taken_cases x with ⟨_, h⟩ | ⟨_, h⟩ | ⟨_, _, h⟩ <;> simp [h])]
  | x :: b :: t =>
    by_cases h5 : x = 5
    · subst h5; exact .inl ⟨b, t, rfl⟩
    · by_cases h2 : x = 2
      · subst h2
        match t with
        | [] => exact .inr (.inr ⟨fun c => rfl, .inr (.inl (by simp))⟩)
        | [y] => exact .inr (.inr ⟨fun c => rfl, .inr (.inl (by simp))⟩)
        | y :: z :: t => exact .inr (.inl ⟨b, y, z, t, rfl⟩)
      · refine .inr (.inr ⟨fun c => ?_, .inr ?_⟩)
        · simp only [sg.ext]
          rw [if_pos (by left; unfold sg.taken; rw [if_neg h2, if_neg h5])]
        · by_cases hl : (x :: b :: t).length < 4
          · exact .inl ⟨by simp, hl, by simpa using h5⟩
          · exact .inr ⟨by omega, by simpa using h5, by simpa using h2⟩
theorem ext5_no (c b : Int) (t : List Int) (h : isByte b = false) : sg.ext c (5 :: b :: t) = (c, t) := by
  have hp : sg.parts [b] = false := by
    have : sg.parts [b] = isByte b := by simp [sg.parts, isByte]
    rw [this, h]
  simp only [sg.ext, show sg.taken 5 = 1 by rfl]
  rw [if_neg (by simp)]
  simp only [List.take_succ_cons, List.take_zero, List.drop_succ_cons, List.drop_zero, hp]
  rfl
theorem ext2_no (c x y z : Int) (t : List Int) (h : (isByte x && isByte y && isByte z) = false) : sg.ext c (2 :: x :: y :: z :: t) = (c, t) := by
  have hp : sg.parts [x, y, z] = false := by
    have : sg.parts [x, y, z] = (isByte x && isByte y && isByte z) := by simp [sg.parts, isByte, Bool.and_assoc]
    rw [this, h]
  simp only [sg.ext, show sg.taken 2 = 3 by rfl]
  rw [if_neg (by simp)]
  simp only [List.take_succ_cons, List.take_zero, List.drop_succ_cons, List.drop_zero, hp]
  rfl
theorem isByte_iff (n : Int) : isByte n = true ↔ 0 ≤ n ∧ n ≤ 255 := by simp [isByte]
theorem RoundR.next {w wr w' : World} {B k k' : Nat} {L : List Int} {s s' R : sg.St} (h : RoundR w wr B L k s R) (hk : Kept wr w' (· = B)) (hs : StAt w' B s') (hr : sg.right s' = true) (hg : sg.go s' (L.drop k') = sg.go s (L.drop k)) : RoundR w w' B L k' s' R :=
  ⟨hs, h.out.kept hk (fun e => by omega), hr, hg.trans h.go, h.bel.trans (Below.of_kept hk (Nat.le_refl _) (Nat.le_of_lt h.st.cells.lt))⟩
theorem RoundR.call {w wr w' : World} {B k : Nat} {L : List Int} {s R : sg.St} (h : RoundR w wr B L k s R) (hb : Below wr.heap.size wr w') : RoundR w w' B L k s R :=
  ⟨h.st.below hb h.st.cells.lt, h.out.below hb h.out.cells.lt, h.rt, h.go, h.bel.trans (hb.mono (Nat.le_of_lt h.st.cells.lt))⟩

set_option maxRecDepth 100000 in
set_option maxHeartbeats 3200000 in
theorem refApply_any (f g a : Int) (o : Option Addr) (n cap : Nat) (zs : List Int) (w : World) (hx : Ints w o n cap zs) :
    Calls Tryd.prog 11 #[.agg #[.int .i64 f, .int .i64 g, .int .i64 a], .slice o n cap] w fun e w' => e = .returned (stV (sg.apply ⟨f, g, a⟩ zs)) ∧ Below w.heap.size w w' := by
  have hle := hx.le
  have hm : cap ≤ 9223372036854775807 := hx.max
  have hlen := hx.len
  obtain ⟨N, hN⟩ : ∃ N, N = min n 16 := ⟨_, rfl⟩
  have hNn : N ≤ n := by omega
  have HX := Lib.hid (slice_hi hx N hNn N rfl).2
  have HR : Hid (sg.apply ⟨f, g, a⟩ zs = if N = 0 then sg.zero else sg.go (sg.known ⟨f, g, a⟩) (zs.take N)) := by
    refine Lib.hid ?_
    have ht : zs.take 16 = zs.take N := by
      rcases Nat.lt_or_ge 16 n with h | h
      · rw [show N = 16 by omega]
      · rw [List.take_of_length_le (by omega), List.take_of_length_le (by omega)]
    unfold sg.apply
    rw [ht]
    by_cases h0 : zs = []
    · have : N = 0 := by rw [h0] at hlen; simp at hlen; omega
      rw [if_pos h0, if_pos this]
    · have : N ≠ 0 := by
        intro e
        apply h0
        exact List.length_eq_zero_iff.1 (by omega)
      rw [if_neg h0, if_neg this]
  have HL : Hid ((zs.take N).length = N) := Lib.hid (by rw [List.length_take]; omega)
  generalize zs.take N = L at *
  generalize sg.apply ⟨f, g, a⟩ zs = R at *
  have hbig : (16 < n ∧ N = 16) ∨ (n ≤ 16 ∧ N = n) := by omega
  have HBG := Lib.hid hbig
  have hNc : N ≤ cap := by omega
  have hN16 : N ≤ 16 := by omega
  clear hx hlen hN hbig
  go_enter Tryd.func11, Tryd.ntmps11
  go_wp2_with fail
  refine (clean_any _ _ _ _).mono ?_
  rintro e w1 ⟨rfl, hb⟩
  obtain ⟨s0, s1, hbl⟩ := two_after (s := ⟨f, g, a⟩) (t := sg.zero) hb
  clear hb
  have hrt := sg.right_known ⟨f, g, a⟩
  generalize sg.known ⟨f, g, a⟩ = s at *
  obtain ⟨k0, k1, k2, f0, f1, f2, u0⟩ := s0.cells
  have HW := Lib.hid (And.intro (st_set3 s0 s.fg s.bg s.at_) (And.intro (s1.kept (kept_set3 w.heap.size (.int .i64 s.fg) (.int .i64 s.bg) (.int .i64 s.at_)) (show ¬ (w.heap.size + 1 = w.heap.size) by omega)) (below_set3 hbl (Nat.le_refl _) (.int .i64 s.fg) (.int .i64 s.bg) (.int .i64 s.at_))))
  have HRT := Lib.hid hrt
  by_cases hn0 : n = 0
  · subst hn0
    obtain rfl : N = 0 := Nat.le_zero.1 hNn
    clear hNn hNc hN16 HBG
    obtain ⟨l0, l1, l2, g0, g1, g2, u1⟩ := s1.cells
    clear hrt s0 s1 hbl
    go_wp2
    simp [bodyPost, results, Tryd.results11, go_sem, l0, l1, l2]
    exact ⟨by rw [HR.out]; simp [sg.zero], below_set3 HW.out.2.2 (Nat.le_succ _) _ _ _⟩
  · have hN1 : ((n : Int) == 0) = false := by simpa using hn0
    have HN0 : Hid (N ≠ 0) := Lib.hid (by rcases HBG.out with h | h <;> omega)
    have HRD : Hid (RoundR w (((w1.setCell ⟨w.heap.size, 0, none⟩ (.int .i64 s.fg)).setCell ⟨w.heap.size, 1, none⟩ (.int .i64 s.bg)).setCell ⟨w.heap.size, 2, none⟩ (.int .i64 s.at_)) w.heap.size L 0 s R) :=
      Lib.hid ⟨HW.out.1, HW.out.2.1, HRT.out, by rw [HR.out, if_neg HN0.out]; rfl, HW.out.2.2⟩
    clear hrt s0 s1 hbl hn0 HR HRT
    go_upto_if 17 with (fail)
    go_cut [1] (fun s1 X => s1 = .slice o N cap ∧ Hid (RoundR w X w.heap.size L 0 s R))
    case first =>
      rcases HBG.out with ⟨hb1, hb2⟩ | ⟨hb1, hb2⟩
      all_goals
        first
          | (have hd1 : decide ((16 : Int) < (n : Int)) = true := decide_eq_true (by omega); subst hb2)
          | (have hd1 : decide ((16 : Int) < (n : Int)) = false := decide_eq_false (by omega); subst hb2)
        go_wp2_with fail
        go_meet
        exact ⟨rfl, HRD⟩
    case rest =>
    obtain ⟨rfl, HRD2⟩ := hcut
    clear HRD HW HBG k0 k1 k2 f0 f1 f2 u0 hN1 hNn hle
    go_wp2_with fail
    go_loopg [5] N (fun gg s5 wr => ∃ (k : Nat) (s' : sg.St), s5 = .int .i64 k ∧ k ≤ N ∧ N - k ≤ gg ∧ Hid (RoundR w wr w.heap.size L k s' R))
    case atStart => exact ⟨0, s, rfl, Nat.zero_le _, by omega, HRD2⟩
    case round =>
      obtain ⟨k, s', rfl, hk, hgg, HD⟩ := hrel
      clear HRD2
      obtain ⟨k0, k1, k2, f0, f1, f2, u0⟩ := HD.out.st.cells
      obtain ⟨l0, l1, l2, g0, g1, g2, u1⟩ := HD.out.out.cells
      by_cases hlt : k < N
      · have hXr := HX.out.below HD.out.bel
        have hlo := slice_lo hXr (k + 1) (by omega)
        obtain ⟨b, off, hob, hvb, hc⟩ := hXr.cell hlt
        subst hob
        have hat := at_of_right HD.out.rt
        have hki : ((k : Int) < (N : Int)) := by omega
        have hk1 : k + 1 ≤ N := hlt
        have hdc := drop_cons L k (by rw [HL.out]; exact hlt)
        generalize L.getD k 0 = x at *
        have HDC := Lib.hid hdc; have HLO := Lib.hid hlo; have HAT := Lib.hid hat
        clear hdc hlo hXr hat
        by_cases hplain : x ≠ 38 ∧ x ≠ 48
        · obtain ⟨h38, h48⟩ := hplain
          have e1 : (x != 38) = true := by simpa using h38
          have e2 : (x != 48) = true := by simpa using h48
          have HN := Lib.hid (And.intro h38 h48)
          clear h38 h48
          go_wp2_with fail
          refine (one_any s'.fg s'.bg s'.at_ x _ HAT.out.1 HAT.out.2).mono ?_
          rintro e w2 ⟨rfl, hb⟩
          rw [show (⟨s'.fg, s'.bg, s'.at_⟩ : sg.St) = s' from rfl]
          have HD2 := Lib.hid (HD.out.call hb)
          have hr1 := sg.one_right x HD.out.rt
          have hg1 : sg.go (sg.one s' x) (L.drop (k + 1)) = sg.go s' (L.drop k) := by rw [HDC.out, sg.go_plain _ _ _ HN.out.1 HN.out.2]
          generalize sg.one s' x = s2 at *
          have HG := Lib.hid (And.intro hr1 hg1)
          clear hb k0 k1 k2 f0 f1 f2 u0 l0 l1 l2 g0 g1 g2 u1 hr1 hg1 hc
          obtain ⟨k0, k1, k2, f0, f1, f2, u0⟩ := HD2.out.st.cells
          have HD3 := Lib.hid (HD2.out.next (k' := k + 1) (kept_set3 w.heap.size (.int .i64 s2.fg) (.int .i64 s2.bg) (.int .i64 s2.at_)) (st_set3 HD2.out.st s2.fg s2.bg s2.at_) HG.out.1 HG.out.2)
          go_wp2_with fail
          go_roundg (N - (k + 1))
          case measure => omega
          case rel => exact ⟨k + 1, s2, by go_num, hk1, Nat.le_refl _, HD3⟩
        · by_cases hx38 : x = 38
          · have e1 : (x != 38) = false := by simp [hx38]
            have e2 : (x != 48) = true := by simp [hx38]
            have e3 : (x == 38) = true := by simp [hx38]
            have e4 : (x == 48) = false := by simp [hx38]
            have hgo : ∀ c' t, sg.ext s'.fg (L.drop (k + 1)) = (c', t) → sg.go ⟨c', s'.bg, s'.at_⟩ t = sg.go s' (L.drop k) := by
              intro c' t he
              rw [HDC.out, sg.go_cons, hx38]
              unfold sg.step
              rw [if_pos rfl, he]
            have hrt : ∀ c' t, sg.ext s'.fg (L.drop (k + 1)) = (c', t) → sg.right ⟨c', s'.bg, s'.at_⟩ = true := by
              intro c' t he
              have h1 := sg.ext_right (L.drop (k + 1)) (c := s'.fg) (by have := HD.out.rt; simp only [sg.right, Bool.and_eq_true] at this; exact this.1.1.1)
              rw [he] at h1
              have h2 := HD.out.rt
              simp only [sg.right, Bool.and_eq_true] at h2 ⊢
              exact ⟨⟨⟨h1, h2.1.1.2⟩, h2.1.2⟩, h2.2⟩
            have HGO := Lib.hid hgo; have HRT := Lib.hid hrt; have HXX := Lib.hid hx38
            clear hgo hrt hx38
            obtain ⟨o1, ho1⟩ : ∃ o1, o1 = slo (some ⟨b, off, none⟩) cap (k + 1) := ⟨_, rfl⟩
            have hI := HLO.out
            rw [← ho1] at hI
            have hrl := hI.len
            have hmm : N - (k + 1) ≤ cap - (k + 1) := by omega
            have HO1 := Lib.hid ho1
            clear HLO ho1
            rcases shapes (L.drop (k + 1)) with ⟨b0, t, hr⟩ | ⟨b1, b2, b3, t, hr⟩ | ⟨hno, hsh⟩
            · have hm2 : N - (k + 1) = t.length + 2 := by rw [← hrl, hr]; simp
              obtain ⟨rb, ro, hob, hrb, hrc⟩ := hI.all (by omega)
              subst hob
              have ho := HO1.out.symm
              have q0 : wr.cell? ⟨rb, ro, none⟩ = some (.int .i64 5) := by have := hrc 0 (by omega); rw [hr, Nat.add_zero] at this; exact this
              have q1 : wr.cell? ⟨rb, ro + 1, none⟩ = some (.int .i64 b0) := by have := hrc 1 (by omega); rw [hr] at this; exact this
              have d2 : decide (2 ≤ N - (k + 1)) = true := decide_eq_true (by omega)
              have htl : L.drop (k + 3) = t := by
                have : L.drop (k + 3) = (L.drop (k + 1)).drop 2 := by rw [List.drop_drop]
                rw [this, hr]; rfl
              have HTL := Lib.hid htl; have HRR := Lib.hid hr; have HM2 := Lib.hid hm2
              have hm2' : k + 3 ≤ N := by omega
              clear hrc hI hrl htl hr hm2
              by_cases hby : isByte b0 = true
              · have hbb := (isByte_iff b0).1 hby
                obtain ⟨bb1, bb2⟩ := hbb
                have HBY := Lib.hid hby
                have he : sg.ext s'.fg (L.drop (k + 1)) = (b0 + 1, t) := by rw [HRR.out]; exact sg.ext_one _ _ _ ⟨bb1, bb2⟩
                have HEX := Lib.hid he
                clear hby he
                go_wp2_with fail
                refine (byteOf_any _ _).mono ?_
                rintro e w2 ⟨rfl, rfl⟩
                rw [HBY.out]
                go_wp2_with fail
                go_roundg (N - (k + 3))
                case measure => omega
                case rel => exact ⟨k + 3, ⟨(b0 + 1), s'.bg, s'.at_⟩, by go_num, by omega, Nat.le_refl _, Lib.hid (HD.out.next (k' := k + 3) ((Kept.refl wr (fun k => k = w.heap.size)).setCell (fun _ => rfl) _) (HD.out.st.set0 _) (HRT.out _ _ HEX.out) (by rw [HTL.out]; exact HGO.out _ _ HEX.out))⟩
              · have hby : isByte b0 = false := by simpa using hby
                have HBY := Lib.hid hby
                have he : sg.ext s'.fg (L.drop (k + 1)) = (s'.fg, t) := by rw [HRR.out]; exact ext5_no _ _ _ hby
                have HEX := Lib.hid he
                clear hby he
                go_wp2_with fail
                refine (byteOf_any _ _).mono ?_
                rintro e w2 ⟨rfl, rfl⟩
                rw [HBY.out]
                go_wp2_with fail
                go_roundg (N - (k + 3))
                case measure => omega
                case rel => exact ⟨k + 3, s', by go_num, by omega, Nat.le_refl _, Lib.hid (HD.out.next (k' := k + 3) (Kept.refl wr _) HD.out.st HD.out.rt (by rw [HTL.out]; exact HGO.out _ _ HEX.out))⟩
            · have hm2 : N - (k + 1) = t.length + 4 := by rw [← hrl, hr]; simp
              obtain ⟨rb, ro, hob, hrb, hrc⟩ := hI.all (by omega)
              subst hob
              have ho := HO1.out.symm
              have q0 : wr.cell? ⟨rb, ro, none⟩ = some (.int .i64 2) := by have := hrc 0 (by omega); rw [hr, Nat.add_zero] at this; exact this
              have q1 : wr.cell? ⟨rb, ro + 1, none⟩ = some (.int .i64 b1) := by have := hrc 1 (by omega); rw [hr] at this; exact this
              have q2 : wr.cell? ⟨rb, ro + 2, none⟩ = some (.int .i64 b2) := by have := hrc 2 (by omega); rw [hr] at this; exact this
              have q3 : wr.cell? ⟨rb, ro + 3, none⟩ = some (.int .i64 b3) := by have := hrc 3 (by omega); rw [hr] at this; exact this
              have d2 : decide (2 ≤ N - (k + 1)) = true := decide_eq_true (by omega)
              have d4 : decide (4 ≤ N - (k + 1)) = true := decide_eq_true (by omega)
              have htl : L.drop (k + 5) = t := by
                have : L.drop (k + 5) = (L.drop (k + 1)).drop 4 := by rw [List.drop_drop]
                rw [this, hr]; rfl
              have HTL := Lib.hid htl; have HRR := Lib.hid hr; have HM2 := Lib.hid hm2
              have hm2' : k + 5 ≤ N := by omega
              have hYes : isByte b1 = true → isByte b2 = true → isByte b3 = true → sg.ext s'.fg (L.drop (k + 1)) = (16777216 + b1 * 65536 + b2 * 256 + b3, t) := fun h1 h2 h3 => by rw [hr]; exact sg.ext_three _ _ _ _ _ ((isByte_iff _).1 h1) ((isByte_iff _).1 h2) ((isByte_iff _).1 h3)
              have hNo : (isByte b1 && isByte b2 && isByte b3) = false → sg.ext s'.fg (L.drop (k + 1)) = (s'.fg, t) := fun h => by rw [hr]; exact ext2_no _ _ _ _ _ h
              have HY := Lib.hid hYes; have HNO := Lib.hid hNo
              have hnx : sg.ext s'.fg (L.drop (k + 1)) = (s'.fg, t) → RoundR w wr w.heap.size L (k + 5) s' R := fun he => HD.out.next (k' := k + 5) (Kept.refl wr _) HD.out.st HD.out.rt (by rw [HTL.out]; exact HGO.out _ _ he)
              have HNX := Lib.hid hnx
              clear hrc hI hrl htl hr hm2 hYes hNo hnx
              go_wp2_with fail
              refine (byteOf_any _ _).mono ?_
              rintro e w2 ⟨rfl, rfl⟩
              by_cases hb1 : isByte b1 = true
              · rw [hb1]
                have HB1 := Lib.hid hb1; clear hb1
                go_wp2_with fail
                refine (byteOf_any _ _).mono ?_
                rintro e w2 ⟨rfl, rfl⟩
                by_cases hb2 : isByte b2 = true
                · rw [hb2]
                  have HB2 := Lib.hid hb2; clear hb2
                  go_wp2_with fail
                  refine (byteOf_any _ _).mono ?_
                  rintro e w2 ⟨rfl, rfl⟩
                  by_cases hb3 : isByte b3 = true
                  · rw [hb3]
                    have HB3 := Lib.hid hb3; clear hb3
                    obtain ⟨x1, x2⟩ := (isByte_iff b1).1 HB1.out
                    obtain ⟨y1, y2⟩ := (isByte_iff b2).1 HB2.out
                    obtain ⟨z1, z2⟩ := (isByte_iff b3).1 HB3.out
                    have HEX := Lib.hid (HY.out HB1.out HB2.out HB3.out)
                    go_wp2_with fail
                    go_quiet (fail)
                    go_wp2_with fail
                    go_roundg (N - (k + 5))
                    case measure => omega
                    case rel => exact ⟨k + 5, ⟨(16777216 + b1 * 65536 + b2 * 256 + b3), s'.bg, s'.at_⟩, by go_num, by omega, Nat.le_refl _, Lib.hid (HD.out.next (k' := k + 5) (((Kept.refl wr (fun k => k = w.heap.size)).drewN nq).setCell (fun _ => rfl) _) ((HD.out.st.drewN nq).set0 _) (HRT.out _ _ HEX.out) (by rw [HTL.out]; exact HGO.out _ _ HEX.out))⟩
                  · have hb3 : isByte b3 = false := by simpa using hb3
                    rw [hb3]
                    have HEX := Lib.hid (HNX.out (HNO.out (by rw [hb3]; simp)))
                    clear hb3
                    go_wp2_with fail
                    go_roundg (N - (k + 5))
                    case measure => omega
                    case rel => exact ⟨k + 5, s', by go_num, by omega, Nat.le_refl _, HEX⟩
                · have hb2 : isByte b2 = false := by simpa using hb2
                  rw [hb2]
                  have HEX := Lib.hid (HNX.out (HNO.out (by rw [hb2]; simp)))
                  clear hb2
                  go_wp2_with fail
                  go_roundg (N - (k + 5))
                  case measure => omega
                  case rel => exact ⟨k + 5, s', by go_num, by omega, Nat.le_refl _, HEX⟩
              · have hb1 : isByte b1 = false := by simpa using hb1
                rw [hb1]
                have HEX := Lib.hid (HNX.out (HNO.out (by rw [hb1]; simp)))
                clear hb1
                go_wp2_with fail
                go_roundg (N - (k + 5))
                case measure => omega
                case rel => exact ⟨k + 5, s', by go_num, by omega, Nat.le_refl _, HEX⟩
            · have he := HGO.out _ _ (hno s'.fg)
              have hsR : s' = R := by
                have h1 := HD.out.go
                rw [← he] at h1
                exact h1
              have HSR := Lib.hid hsR
              clear hno he hsR
              rw [hrl] at hsh
              have fin : ∀ X, X = (((wr.setCell ⟨w.heap.size + 1, 0, none⟩ (.int .i64 s'.fg)).setCell ⟨w.heap.size + 1, 1, none⟩ (.int .i64 s'.bg)).setCell ⟨w.heap.size + 1, 2, none⟩ (.int .i64 s'.at_)) → Below w.heap.size w X := fun X h => by rw [h]; exact below_set3 HD.out.bel (Nat.le_succ _) _ _ _
              have HFIN := Lib.hid fin
              clear fin
              rcases hsh with h1 | ⟨h1, h2, h3⟩ | ⟨h1, h3, h4⟩
              · have d2 : decide (2 ≤ N - (k + 1)) = false := decide_eq_false (by omega)
                have d4 : decide (4 ≤ N - (k + 1)) = false := decide_eq_false (by omega)
                clear hI hrl
                go_wp2
                simp [bodyPost, results, Tryd.results11, go_sem, l0, l1, l2]
                have hR := HSR.out
                subst hR
                exact ⟨⟨rfl, rfl, rfl⟩, HFIN.out _ rfl⟩
              · have d2 : decide (2 ≤ N - (k + 1)) = true := decide_eq_true (by omega)
                have d4 : decide (4 ≤ N - (k + 1)) = false := decide_eq_false (by omega)
                obtain ⟨rb, ro, hob, hrb, hrc⟩ := hI.all (by omega)
                subst hob
                have ho := HO1.out.symm
                have q0 := hrc 0 (by omega)
                rw [Nat.add_zero] at q0
                generalize (L.drop (k + 1)).getD 0 0 = y0 at *
                clear hI hrl hrc
                go_wp2
                simp [bodyPost, results, Tryd.results11, go_sem, l0, l1, l2]
                have hR := HSR.out
                subst hR
                exact ⟨⟨rfl, rfl, rfl⟩, HFIN.out _ rfl⟩
              · have d2 : decide (2 ≤ N - (k + 1)) = true := decide_eq_true (by omega)
                have d4 : decide (4 ≤ N - (k + 1)) = true := decide_eq_true (by omega)
                obtain ⟨rb, ro, hob, hrb, hrc⟩ := hI.all (by omega)
                subst hob
                have ho := HO1.out.symm
                have q0 := hrc 0 (by omega)
                rw [Nat.add_zero] at q0
                generalize (L.drop (k + 1)).getD 0 0 = y0 at *
                clear hI hrl hrc
                go_wp2
                simp [bodyPost, results, Tryd.results11, go_sem, l0, l1, l2]
                have hR := HSR.out
                subst hR
                exact ⟨⟨rfl, rfl, rfl⟩, HFIN.out _ rfl⟩
          · have hx38 : x = 48 := Classical.byContradiction fun h => hplain ⟨hx38, h⟩
            have e1 : (x != 38) = true := by simp [hx38]
            have e2 : (x != 48) = false := by simp [hx38]
            have e3 : (x == 38) = false := by simp [hx38]
            have e4 : (x == 48) = true := by simp [hx38]
            have hgo : ∀ c' t, sg.ext s'.bg (L.drop (k + 1)) = (c', t) → sg.go ⟨s'.fg, c', s'.at_⟩ t = sg.go s' (L.drop k) := by
              intro c' t he
              rw [HDC.out, sg.go_cons, hx38]
              unfold sg.step
              rw [if_neg (by decide), if_pos rfl, he]
            have hrt : ∀ c' t, sg.ext s'.bg (L.drop (k + 1)) = (c', t) → sg.right ⟨s'.fg, c', s'.at_⟩ = true := by
              intro c' t he
              have h1 := sg.ext_right (L.drop (k + 1)) (c := s'.bg) (by have := HD.out.rt; simp only [sg.right, Bool.and_eq_true] at this; exact this.1.1.2)
              rw [he] at h1
              have h2 := HD.out.rt
              simp only [sg.right, Bool.and_eq_true] at h2 ⊢
              exact ⟨⟨⟨h2.1.1.1, h1⟩, h2.1.2⟩, h2.2⟩
            have HGO := Lib.hid hgo; have HRT := Lib.hid hrt; have HXX := Lib.hid hx38
            clear hgo hrt hx38
            obtain ⟨o1, ho1⟩ : ∃ o1, o1 = slo (some ⟨b, off, none⟩) cap (k + 1) := ⟨_, rfl⟩
            have hI := HLO.out
            rw [← ho1] at hI
            have hrl := hI.len
            have hmm : N - (k + 1) ≤ cap - (k + 1) := by omega
            have HO1 := Lib.hid ho1
            clear HLO ho1
            rcases shapes (L.drop (k + 1)) with ⟨b0, t, hr⟩ | ⟨b1, b2, b3, t, hr⟩ | ⟨hno, hsh⟩
            · have hm2 : N - (k + 1) = t.length + 2 := by rw [← hrl, hr]; simp
              obtain ⟨rb, ro, hob, hrb, hrc⟩ := hI.all (by omega)
              subst hob
              have ho := HO1.out.symm
              have q0 : wr.cell? ⟨rb, ro, none⟩ = some (.int .i64 5) := by have := hrc 0 (by omega); rw [hr, Nat.add_zero] at this; exact this
              have q1 : wr.cell? ⟨rb, ro + 1, none⟩ = some (.int .i64 b0) := by have := hrc 1 (by omega); rw [hr] at this; exact this
              have d2 : decide (2 ≤ N - (k + 1)) = true := decide_eq_true (by omega)
              have htl : L.drop (k + 3) = t := by
                have : L.drop (k + 3) = (L.drop (k + 1)).drop 2 := by rw [List.drop_drop]
                rw [this, hr]; rfl
              have HTL := Lib.hid htl; have HRR := Lib.hid hr; have HM2 := Lib.hid hm2
              have hm2' : k + 3 ≤ N := by omega
              clear hrc hI hrl htl hr hm2
              by_cases hby : isByte b0 = true
              · have hbb := (isByte_iff b0).1 hby
                obtain ⟨bb1, bb2⟩ := hbb
                have HBY := Lib.hid hby
                have he : sg.ext s'.bg (L.drop (k + 1)) = (b0 + 1, t) := by rw [HRR.out]; exact sg.ext_one _ _ _ ⟨bb1, bb2⟩
                have HEX := Lib.hid he
                clear hby he
                go_wp2_with fail
                refine (byteOf_any _ _).mono ?_
                rintro e w2 ⟨rfl, rfl⟩
                rw [HBY.out]
                go_wp2_with fail
                go_roundg (N - (k + 3))
                case measure => omega
                case rel => exact ⟨k + 3, ⟨s'.fg, (b0 + 1), s'.at_⟩, by go_num, by omega, Nat.le_refl _, Lib.hid (HD.out.next (k' := k + 3) ((Kept.refl wr (fun k => k = w.heap.size)).setCell (fun _ => rfl) _) (HD.out.st.set1 _) (HRT.out _ _ HEX.out) (by rw [HTL.out]; exact HGO.out _ _ HEX.out))⟩
              · have hby : isByte b0 = false := by simpa using hby
                have HBY := Lib.hid hby
                have he : sg.ext s'.bg (L.drop (k + 1)) = (s'.bg, t) := by rw [HRR.out]; exact ext5_no _ _ _ hby
                have HEX := Lib.hid he
                clear hby he
                go_wp2_with fail
                refine (byteOf_any _ _).mono ?_
                rintro e w2 ⟨rfl, rfl⟩
                rw [HBY.out]
                go_wp2_with fail
                go_roundg (N - (k + 3))
                case measure => omega
                case rel => exact ⟨k + 3, s', by go_num, by omega, Nat.le_refl _, Lib.hid (HD.out.next (k' := k + 3) (Kept.refl wr _) HD.out.st HD.out.rt (by rw [HTL.out]; exact HGO.out _ _ HEX.out))⟩
            · have hm2 : N - (k + 1) = t.length + 4 := by rw [← hrl, hr]; simp
              obtain ⟨rb, ro, hob, hrb, hrc⟩ := hI.all (by omega)
              subst hob
              have ho := HO1.out.symm
              have q0 : wr.cell? ⟨rb, ro, none⟩ = some (.int .i64 2) := by have := hrc 0 (by omega); rw [hr, Nat.add_zero] at this; exact this
              have q1 : wr.cell? ⟨rb, ro + 1, none⟩ = some (.int .i64 b1) := by have := hrc 1 (by omega); rw [hr] at this; exact this
              have q2 : wr.cell? ⟨rb, ro + 2, none⟩ = some (.int .i64 b2) := by have := hrc 2 (by omega); rw [hr] at this; exact this
              have q3 : wr.cell? ⟨rb, ro + 3, none⟩ = some (.int .i64 b3) := by have := hrc 3 (by omega); rw [hr] at this; exact this
              have d2 : decide (2 ≤ N - (k + 1)) = true := decide_eq_true (by omega)
              have d4 : decide (4 ≤ N - (k + 1)) = true := decide_eq_true (by omega)
              have htl : L.drop (k + 5) = t := by
                have : L.drop (k + 5) = (L.drop (k + 1)).drop 4 := by rw [List.drop_drop]
                rw [this, hr]; rfl
              have HTL := Lib.hid htl; have HRR := Lib.hid hr; have HM2 := Lib.hid hm2
              have hm2' : k + 5 ≤ N := by omega
              have hYes : isByte b1 = true → isByte b2 = true → isByte b3 = true → sg.ext s'.bg (L.drop (k + 1)) = (16777216 + b1 * 65536 + b2 * 256 + b3, t) := fun h1 h2 h3 => by rw [hr]; exact sg.ext_three _ _ _ _ _ ((isByte_iff _).1 h1) ((isByte_iff _).1 h2) ((isByte_iff _).1 h3)
              have hNo : (isByte b1 && isByte b2 && isByte b3) = false → sg.ext s'.bg (L.drop (k + 1)) = (s'.bg, t) := fun h => by rw [hr]; exact ext2_no _ _ _ _ _ h
              have HY := Lib.hid hYes; have HNO := Lib.hid hNo
              have hnx : sg.ext s'.bg (L.drop (k + 1)) = (s'.bg, t) → RoundR w wr w.heap.size L (k + 5) s' R := fun he => HD.out.next (k' := k + 5) (Kept.refl wr _) HD.out.st HD.out.rt (by rw [HTL.out]; exact HGO.out _ _ he)
              have HNX := Lib.hid hnx
              clear hrc hI hrl htl hr hm2 hYes hNo hnx
              go_wp2_with fail
              refine (byteOf_any _ _).mono ?_
              rintro e w2 ⟨rfl, rfl⟩
              by_cases hb1 : isByte b1 = true
              · rw [hb1]
                have HB1 := Lib.hid hb1; clear hb1
                go_wp2_with fail
                refine (byteOf_any _ _).mono ?_
                rintro e w2 ⟨rfl, rfl⟩
                by_cases hb2 : isByte b2 = true
                · rw [hb2]
                  have HB2 := Lib.hid hb2; clear hb2
                  go_wp2_with fail
                  refine (byteOf_any _ _).mono ?_
                  rintro e w2 ⟨rfl, rfl⟩
                  by_cases hb3 : isByte b3 = true
                  · rw [hb3]
                    have HB3 := Lib.hid hb3; clear hb3
                    obtain ⟨x1, x2⟩ := (isByte_iff b1).1 HB1.out
                    obtain ⟨y1, y2⟩ := (isByte_iff b2).1 HB2.out
                    obtain ⟨z1, z2⟩ := (isByte_iff b3).1 HB3.out
                    have HEX := Lib.hid (HY.out HB1.out HB2.out HB3.out)
                    go_wp2_with fail
                    go_quiet (fail)
                    go_wp2_with fail
                    go_roundg (N - (k + 5))
                    case measure => omega
                    case rel => exact ⟨k + 5, ⟨s'.fg, (16777216 + b1 * 65536 + b2 * 256 + b3), s'.at_⟩, by go_num, by omega, Nat.le_refl _, Lib.hid (HD.out.next (k' := k + 5) (((Kept.refl wr (fun k => k = w.heap.size)).drewN nq).setCell (fun _ => rfl) _) ((HD.out.st.drewN nq).set1 _) (HRT.out _ _ HEX.out) (by rw [HTL.out]; exact HGO.out _ _ HEX.out))⟩
                  · have hb3 : isByte b3 = false := by simpa using hb3
                    rw [hb3]
                    have HEX := Lib.hid (HNX.out (HNO.out (by rw [hb3]; simp)))
                    clear hb3
                    go_wp2_with fail
                    go_roundg (N - (k + 5))
                    case measure => omega
                    case rel => exact ⟨k + 5, s', by go_num, by omega, Nat.le_refl _, HEX⟩
                · have hb2 : isByte b2 = false := by simpa using hb2
                  rw [hb2]
                  have HEX := Lib.hid (HNX.out (HNO.out (by rw [hb2]; simp)))
                  clear hb2
                  go_wp2_with fail
                  go_roundg (N - (k + 5))
                  case measure => omega
                  case rel => exact ⟨k + 5, s', by go_num, by omega, Nat.le_refl _, HEX⟩
              · have hb1 : isByte b1 = false := by simpa using hb1
                rw [hb1]
                have HEX := Lib.hid (HNX.out (HNO.out (by rw [hb1]; simp)))
                clear hb1
                go_wp2_with fail
                go_roundg (N - (k + 5))
                case measure => omega
                case rel => exact ⟨k + 5, s', by go_num, by omega, Nat.le_refl _, HEX⟩
            · have he := HGO.out _ _ (hno s'.bg)
              have hsR : s' = R := by
                have h1 := HD.out.go
                rw [← he] at h1
                exact h1
              have HSR := Lib.hid hsR
              clear hno he hsR
              rw [hrl] at hsh
              have fin : ∀ X, X = (((wr.setCell ⟨w.heap.size + 1, 0, none⟩ (.int .i64 s'.fg)).setCell ⟨w.heap.size + 1, 1, none⟩ (.int .i64 s'.bg)).setCell ⟨w.heap.size + 1, 2, none⟩ (.int .i64 s'.at_)) → Below w.heap.size w X := fun X h => by rw [h]; exact below_set3 HD.out.bel (Nat.le_succ _) _ _ _
              have HFIN := Lib.hid fin
              clear fin
              rcases hsh with h1 | ⟨h1, h2, h3⟩ | ⟨h1, h3, h4⟩
              · have d2 : decide (2 ≤ N - (k + 1)) = false := decide_eq_false (by omega)
                have d4 : decide (4 ≤ N - (k + 1)) = false := decide_eq_false (by omega)
                clear hI hrl
                go_wp2
                simp [bodyPost, results, Tryd.results11, go_sem, l0, l1, l2]
                have hR := HSR.out
                subst hR
                exact ⟨⟨rfl, rfl, rfl⟩, HFIN.out _ rfl⟩
              · have d2 : decide (2 ≤ N - (k + 1)) = true := decide_eq_true (by omega)
                have d4 : decide (4 ≤ N - (k + 1)) = false := decide_eq_false (by omega)
                obtain ⟨rb, ro, hob, hrb, hrc⟩ := hI.all (by omega)
                subst hob
                have ho := HO1.out.symm
                have q0 := hrc 0 (by omega)
                rw [Nat.add_zero] at q0
                generalize (L.drop (k + 1)).getD 0 0 = y0 at *
                clear hI hrl hrc
                go_wp2
                simp [bodyPost, results, Tryd.results11, go_sem, l0, l1, l2]
                have hR := HSR.out
                subst hR
                exact ⟨⟨rfl, rfl, rfl⟩, HFIN.out _ rfl⟩
              · have d2 : decide (2 ≤ N - (k + 1)) = true := decide_eq_true (by omega)
                have d4 : decide (4 ≤ N - (k + 1)) = true := decide_eq_true (by omega)
                obtain ⟨rb, ro, hob, hrb, hrc⟩ := hI.all (by omega)
                subst hob
                have ho := HO1.out.symm
                have q0 := hrc 0 (by omega)
                rw [Nat.add_zero] at q0
                generalize (L.drop (k + 1)).getD 0 0 = y0 at *
                clear hI hrl hrc
                go_wp2
                simp [bodyPost, results, Tryd.results11, go_sem, l0, l1, l2]
                have hR := HSR.out
                subst hR
                exact ⟨⟨rfl, rfl, rfl⟩, HFIN.out _ rfl⟩
      · obtain rfl : k = N := by omega
        have hgo : s' = R := by
          have := HD.out.go
          rw [List.drop_of_length_le (by rw [HL.out]; exact Nat.le_refl _), sg.go_nil] at this
          exact this
        have HGO := Lib.hid hgo; clear hgo
        go_wp2
        simp [bodyPost, results, Tryd.results11, go_sem, l0, l1, l2]
        have hR := HGO.out
        subst hR
        exact ⟨⟨rfl, rfl, rfl⟩, below_set3 HD.out.bel (Nat.le_succ _) _ _ _⟩
end Go.Proofs.YtkkgelobfefncaaDoor
