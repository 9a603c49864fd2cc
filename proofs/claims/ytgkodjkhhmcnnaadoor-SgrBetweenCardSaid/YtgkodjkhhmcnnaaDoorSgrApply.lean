/- A style by numbers: step, Apply. -/
import Derived.Test.YtgkodjkhhmcnnaaDoorSgrExt
namespace Go.Proofs.YtgkodjkhhmcnnaaDoor.S5
open Go.RowKit
attribute [local go_sem ↓ 10000] run_slo run_slo1 run_mn

def I64 (x : Int) : Prop := -9223372036854775808 ≤ x ∧ x ≤ 9223372036854775807
theorem basic_wrap (c x : Int) (k : Int) (hk : 30 ≤ k ∧ k ≤ 40) (h : I64 x) : sg.basic c (wrap64 (x - k)) = sg.basic c (x - k) := by
  unfold I64 at h
  by_cases h1 : -9223372036854775808 ≤ x - k
  · have e : wrap64 (x - k) = x - k := by unfold wrap64; omega
    rw [e]
  · have e : wrap64 (x - k) = x - k + 18446744073709551616 := by unfold wrap64; omega
    rw [e]
    unfold sg.basic
    rw [if_neg (by omega), if_neg (by omega), if_neg (by omega), if_neg (by omega), if_neg (by omega), if_neg (by omega)]
/-- what step leaves -/
def StepTo (w : World) (b : Nat) (s : sg.St) (x : Int) (r : List Int) (e : Ending) (w' : World) : Prop :=
  ∃ o n cap, e = .returned (.slice o n cap) ∧ Ints w' o n cap (sg.step s x r).2 ∧ Off o n b ∧ StAt w' b (sg.step s x r).1 ∧ Kept w w' (· = b)
theorem StAt.put0 {w w' : World} {b : Nat} {s : sg.St} {d : Int} (hs : StAt w b s) (h : Puts w w' ⟨b, 0, none⟩ s.fg d) : StAt w' b ⟨d, s.bg, s.at_⟩ := by
  rcases h with ⟨rfl, rfl⟩ | rfl
  · exact hs
  · exact hs.set0 d
theorem StAt.put1 {w w' : World} {b : Nat} {s : sg.St} {d : Int} (hs : StAt w b s) (h : Puts w w' ⟨b, 1, none⟩ s.bg d) : StAt w' b ⟨s.fg, d, s.at_⟩ := by
  rcases h with ⟨rfl, rfl⟩ | rfl
  · exact hs
  · exact hs.set1 d
theorem st_set3 {w : World} {b : Nat} {s : sg.St} (h : StAt w b s) (x y z : Int) : StAt (((w.setCell ⟨b, 0, none⟩ (.int .i64 x)).setCell ⟨b, 1, none⟩ (.int .i64 y)).setCell ⟨b, 2, none⟩ (.int .i64 z)) b ⟨x, y, z⟩ := ((h.set0 x).set1 y).set2 z
theorem kept_set3 {w : World} (b : Nat) (x y z : Value) : Kept w (((w.setCell ⟨b, 0, none⟩ x).setCell ⟨b, 1, none⟩ y).setCell ⟨b, 2, none⟩ z) (· = b) :=
  (((Kept.refl w (fun k => k = b)).setCell (fun _ => rfl) _).setCell (fun _ => rfl) _).setCell (fun _ => rfl) _

set_option maxHeartbeats 1600000 in
theorem step_any (b : Nat) (s : sg.St) (x : Int) (r : List Int) (o : Option Addr) (n cap : Nat) (w : World) (hs : StAt w b s) (ha0 : 0 ≤ s.at_) (ha1 : s.at_ ≤ 31) (hi : I64 x) (hx : Ints w o n cap (x :: r)) (ho : Off o n b) (ht : Tabs w) (hb2 : 2 ≤ b) :
    Calls Tryd.prog 28 #[.pointer (some ⟨b, 0, none⟩), .slice o n cap] w (StepTo w b s x r) := by
  have hle := hx.le
  have hm : cap ≤ 9223372036854775807 := hx.max
  have hlen := hx.len
  obtain ⟨n, rfl⟩ : ∃ m, n = m + 1 := ⟨r.length, by simpa using hlen.symm⟩
  obtain ⟨bb, off, rfl, hb, hk⟩ := hx.all (by omega)
  have k0 := hk 0 (by omega)
  rw [Nat.add_zero] at k0
  simp only [List.getD, List.getElem?_cons_zero, Option.getD_some] at k0
  have hlo := slice_lo hx 1 (by omega)
  simp only [Nat.add_sub_cancel, List.drop_one, List.tail_cons] at hlo
  have hof : Off (slo (some ⟨bb, off, none⟩) cap 1) n b := by have := ho.slo (cap := cap) (l := 1); simpa using this
  have HL := Lib.hid (hlo.drewN 1); have HO := Lib.hid hof; have HTB := Lib.hid ht.drew; have HS := Lib.hid (show StAt w.drew b s from hs)
  have HI := Lib.hid hi; have HA := Lib.hid (And.intro ha0 ha1); have HB2 := Lib.hid hb2
  obtain ⟨c0, c1, c2, f0, f1, f2, u0⟩ := hs.cells
  clear hlo hof ht hs hk hx ho hlen hi ha0 ha1 hb2
  obtain ⟨o1, ho1⟩ : ∃ o1, o1 = slo (some ⟨bb, off, none⟩) cap 1 := ⟨_, rfl⟩
  rw [← ho1] at HL HO
  have HO1 := Lib.hid ho1.symm; clear ho1
  by_cases h0 : x = -1 ∨ x = 0
  · have HE := Lib.hid (show sg.step s x r = (sg.zero, r) by unfold sg.step sg.one; rw [if_neg (by omega), if_neg (by omega), if_pos h0])
    rcases h0 with rfl | rfl
    all_goals
      go_enter Tryd.func28, Tryd.ntmps28
      go_wp2_with fail
      go_region
      go_wp2_with fail
      go_ret
      rw [HO1.out]
      exact ⟨_, _, _, rfl, by rw [HE.out]; exact HL.out.kept (kept_set3 b _ _ _) HO.out, HO.out, by rw [HE.out]; exact st_set3 HS.out _ _ _, (Kept.refl _ _).drew.trans (kept_set3 b _ _ _) (fun _ _ h => h)⟩
  · have e1 : (x == -1) = false := by simp; omega
    have e2 : (x == 0) = false := by simp; omega
    by_cases h38 : x = 38
    · have HE := Lib.hid (show sg.step s x r = (⟨(sg.ext s.fg r).1, s.bg, s.at_⟩, (sg.ext s.fg r).2) by unfold sg.step; rw [if_pos h38])
      subst h38
      clear h0 e1 e2
      go_enter Tryd.func28, Tryd.ntmps28
      go_wp2_with fail
      go_region
      go_wp2_with fail
      refine (setExtended_any b 0 s.fg _ _ _ r _ HS.out.cells.c0 HS.out.cells.f0 (HO1.out.symm ▸ HL.out) (HO1.out.symm ▸ HO.out) HTB.out).mono ?_
      rintro e w1 ⟨o2, n2, cap2, rfl, hi2, ho2, q, hp⟩
      have HP := Lib.hid (show StepTo w b s 38 r (.returned (.slice o2 n2 cap2)) w1 from ⟨o2, n2, cap2, rfl, by rw [HE.out]; exact hi2, ho2, by rw [HE.out]; exact (HS.out.drewN q).put0 hp, ((Kept.refl w _).drew.drewN q).trans hp.kept (fun _ _ h => h)⟩)
      clear hi2 ho2 hp
      go_wp2_with fail
      go_ret
      exact HP.out
    · have e3 : (x == 38) = false := by simpa using h38
      by_cases h48 : x = 48
      · have HE := Lib.hid (show sg.step s x r = (⟨s.fg, (sg.ext s.bg r).1, s.at_⟩, (sg.ext s.bg r).2) by unfold sg.step; rw [if_neg h38, if_pos h48])
        subst h48
        clear h0 e1 e2 e3 h38
        go_enter Tryd.func28, Tryd.ntmps28
        go_wp2_with fail
        go_region
        go_wp2_with fail
        refine (setExtended_any b 1 s.bg _ _ _ r _ HS.out.cells.c1 HS.out.cells.f1 (HO1.out.symm ▸ HL.out) (HO1.out.symm ▸ HO.out) HTB.out).mono ?_
        rintro e w1 ⟨o2, n2, cap2, rfl, hi2, ho2, q, hp⟩
        have HP := Lib.hid (show StepTo w b s 48 r (.returned (.slice o2 n2 cap2)) w1 from ⟨o2, n2, cap2, rfl, by rw [HE.out]; exact hi2, ho2, by rw [HE.out]; exact (HS.out.drewN q).put1 hp, ((Kept.refl w _).drew.drewN q).trans hp.kept (fun _ _ h => h)⟩)
        clear hi2 ho2 hp
        go_wp2_with fail
        go_ret
        exact HP.out
      · have e4 : (x == 48) = false := by simpa using h48
        have HE := Lib.hid (show sg.step s x r = (⟨sg.basic s.fg (x - 30), sg.basic s.bg (x - 40), sg.markOf s.at_ x⟩, r) by unfold sg.step sg.one; rw [if_neg h38, if_neg h48, if_neg h0])
        clear h0 h38 h48
        go_enter Tryd.func28, Tryd.ntmps28
        go_wp2_with fail
        go_region
        go_wp2_with fail
        refine (setMarks_any b s x _ HS.out HTB.out HA.out.1 HA.out.2).mono ?_
        rintro e w1 ⟨rfl, hs1, hk1⟩
        go_wp2_with fail
        obtain ⟨d0, d1, d2, g0, g1, g2, u1⟩ := hs1.cells
        refine (setBasic_any b 0 s.fg _ _ d0 g0).mono ?_
        rintro e w2 ⟨rfl, hp2⟩
        rw [basic_wrap _ _ _ (by decide) HI.out] at hp2
        have hs2 := hs1.put0 hp2
        have hk2 := hk1.trans hp2.kept (fun _ _ h => h)
        clear hp2 hs1 hk1 d0 d1 d2 g0 g1 g2 u1 c0 c1 c2 f0 f1 f2 u0
        go_wp2_with fail
        obtain ⟨d0, d1, d2, g0, g1, g2, u1⟩ := hs2.cells
        refine (setBasic_any b 1 s.bg _ _ d1 g1).mono ?_
        rintro e w3 ⟨rfl, hp3⟩
        rw [basic_wrap _ _ _ (by decide) HI.out] at hp3
        have hs3 := hs2.put1 hp3
        have hk3 := hk2.trans hp3.kept (fun _ _ h => h)
        have HP := Lib.hid (show StepTo w b s x r (.returned (.slice o1 n (cap - 1))) w3 from ⟨_, _, _, rfl, by rw [HE.out]; exact HL.out.kept hk3 HO.out, HO.out, by rw [HE.out]; exact hs3, (Kept.refl w _).drew.trans hk3 (fun _ _ h => h)⟩)
        clear hp3 hs3 hk3 hs2 hk2 d0 d1 d2 g0 g1 g2 u1
        go_wp2_with fail
        go_ret
        rw [HO1.out]
        exact HP.out

theorem ext_sub (c : Int) (l : List Int) : ∀ z ∈ (sg.ext c l).2, z ∈ l := by
  intro z hz
  cases l with
  | nil => simp [sg.ext] at hz
  | cons x r =>
    simp only [sg.ext] at hz
    split at hz
    · simp at hz
    · exact List.mem_cons_of_mem _ (List.mem_of_mem_drop hz)
theorem step_sub (s : sg.St) (x : Int) (r : List Int) : ∀ z ∈ (sg.step s x r).2, z ∈ r := by
  intro z hz
  unfold sg.step at hz
  split at hz
  · exact ext_sub _ _ z hz
  · split at hz
    · exact ext_sub _ _ z hz
    · exact hz
theorem at_of_right {s : sg.St} (h : sg.right s = true) : 0 ≤ s.at_ ∧ s.at_ ≤ 31 := by
  rw [sg.right_iff] at h
  exact ⟨h.2.2.1, h.2.2.2⟩
/-- a round of Apply -/
structure Round (w wr : World) (B : Nat) (o : Option Addr) (n cap : Nat) (l : List Int) (s R : sg.St) : Prop where
  ints : Ints wr o n cap l
  off : Off o n B
  st : StAt wr B s
  out : StAt wr (B + 1) sg.zero
  rt : sg.right s = true
  i64 : ∀ z ∈ l, I64 z
  go : sg.go s l = R
  bel : Below B w wr
theorem Below.of_kept {B b : Nat} {w w' : World} (h : Kept w w' (· = b)) (hB : B ≤ b) (hs : B ≤ w.heap.size) : Below B w w' :=
  h.below hs (fun k hk => by omega)
theorem Round.step {w wr w' : World} {B : Nat} {o o' : Option Addr} {n n' cap cap' : Nat} {x : Int} {r : List Int} {s R : sg.St} (h : Round w wr B o n cap (x :: r) s R) (hi : Ints w' o' n' cap' (sg.step s x r).2) (ho : Off o' n' B) (hs : StAt w' B (sg.step s x r).1) (hk : Kept wr w' (· = B)) : Round w w' B o' n' cap' (sg.step s x r).2 (sg.step s x r).1 R :=
  ⟨hi, ho, hs, h.out.kept hk (fun e => by omega), sg.step_right _ _ h.rt, fun z hz => h.i64 z (List.mem_cons_of_mem _ (step_sub _ _ _ z hz)), by rw [← sg.go_cons]; exact h.go, h.bel.trans (Below.of_kept hk (Nat.le_refl _) (Nat.le_of_lt h.st.cells.lt))⟩

set_option maxRecDepth 100000 in
set_option maxHeartbeats 1600000 in
theorem apply_any (f g a : Int) (o : Option Addr) (n cap : Nat) (zs : List Int) (w : World) (hx : Ints w o n cap zs) (hI : ∀ z ∈ zs, I64 z) (ht : Tabs w) :
    Calls Tryd.prog 16 #[.agg #[.int .i64 f, .int .i64 g, .int .i64 a], .slice o n cap] w fun e w' => e = .returned (stV (sg.apply ⟨f, g, a⟩ zs)) ∧ Below w.heap.size w w' := by
  have hle := hx.le
  have hm : cap ≤ 9223372036854775807 := hx.max
  have hlen := hx.len
  have h2 := ht.two
  have hof := Off.of hx (Nat.le_refl _)
  generalize hB : w.heap.size = B at *
  have HB := Lib.hid hB; clear hB
  obtain ⟨N, hN⟩ : ∃ N, N = min n 16 := ⟨_, rfl⟩
  have hNn : N ≤ n := by omega
  have e1 : mn (n : Int) 16 = (N : Int) := by unfold mn; omega
  have HX := Lib.hid (slice_hi hx N hNn N rfl).2; have HT := Lib.hid ht; have HI := Lib.hid (fun z hz => hI z (List.mem_of_mem_take (i := N) hz)); have HO := Lib.hid (hof.le hNn)
  have HR : Hid (sg.apply ⟨f, g, a⟩ zs = if N = 0 then sg.zero else sg.go (sg.known ⟨f, g, a⟩) (zs.take N)) := by
    refine Lib.hid ?_
    have ht : zs.take 16 = zs.take N := by
      rcases Nat.lt_or_ge 16 n with h | h
      · rw [show N = 16 by omega]
      · rw [List.take_of_length_le (by omega), List.take_of_length_le (by omega)]
    unfold sg.apply
    rw [ht]
    by_cases h0 : zs = []
    · have : N = 0 := by rw [h0] at hlen; simp at hlen; omega
      rw [if_pos h0, if_pos this]
    · have : N ≠ 0 := by
        intro e
        apply h0
        exact List.length_eq_zero_iff.1 (by omega)
      rw [if_neg h0, if_neg this]
  generalize sg.apply ⟨f, g, a⟩ zs = R at *
  clear hx hI ht hof hlen hN
  have E1 := Lib.hid e1; clear e1
  go_enter Tryd.func16, Tryd.ntmps16
  go_wp2_with fail
  refine (known_any _ _ _ _).mono ?_
  rintro e w1 ⟨rfl, hb⟩
  obtain ⟨s0, s1, hbl⟩ := two_after (s := ⟨f, g, a⟩) (t := sg.zero) hb
  clear hb
  rw [HB.out] at s0 s1 hbl ⊢
  have hrt := sg.right_known ⟨f, g, a⟩
  generalize sg.known ⟨f, g, a⟩ = s at *
  obtain ⟨k0, k1, k2, f0, f1, f2, u0⟩ := s0.cells
  have HW := Lib.hid (And.intro (st_set3 s0 s.fg s.bg s.at_) (And.intro (s1.kept (kept_set3 B (.int .i64 s.fg) (.int .i64 s.bg) (.int .i64 s.at_)) (fun e => by omega)) (And.intro (below_set3 hbl (Nat.le_refl _) (.int .i64 s.fg) (.int .i64 s.bg) (.int .i64 s.at_)) (Below.of_kept (kept_set3 (w := w1) B (.int .i64 s.fg) (.int .i64 s.bg) (.int .i64 s.at_)) (Nat.le_refl _) (Nat.le_of_lt u0)))))
  have HRT := Lib.hid hrt
  have e1 := E1.out
  by_cases hN0 : N = 0
  · subst hN0
    obtain ⟨l0, l1, l2, g0, g1, g2, u1⟩ := s1.cells
    clear hrt s0 s1 hbl
    go_wp2
    simp [bodyPost, results, Tryd.results16, go_sem, l0, l1, l2]
    have h3 := below_set3 HW.out.2.2.1 (Nat.le_succ B) (.int .i64 0) (.int .i64 0) (.int .i64 0)
    refine ⟨by rw [HR.out]; simp [sg.zero], ?_⟩
    (try rw [HB.out])
    exact h3
  · have hN1 : ((N : Int) == 0) = false := by simpa using hN0
    have HN0 := Lib.hid hN0
    clear hrt s0 s1 hbl hN0
    go_wp2_with fail
    have HRD : Hid (Round w (((w1.setCell ⟨B, 0, none⟩ (.int .i64 s.fg)).setCell ⟨B, 1, none⟩ (.int .i64 s.bg)).setCell ⟨B, 2, none⟩ (.int .i64 s.at_)) B o N cap (zs.take N) s R) :=
      Lib.hid ⟨HX.out.below (HB.out ▸ HW.out.2.2.1), HO.out, HW.out.1, HW.out.2.1, HRT.out, HI.out, by rw [HR.out, if_neg HN0.out], HW.out.2.2.1⟩
    clear HX HI HO HW HRT k0 k1 k2 f0 f1 f2 u0 HR hN1 e1 E1
    go_loopg [1] N (fun gg s1 wr => ∃ (o' : Option Addr) (n' cap' : Nat) (l : List Int) (s' : sg.St), s1 = .slice o' n' cap' ∧ n' ≤ gg ∧ Hid (Round w wr B o' n' cap' l s' R))
    case atStart => exact ⟨o, N, cap, _, s, rfl, Nat.le_refl _, HRD⟩
    case round =>
      obtain ⟨o', n', cap', l, s', rfl, hgg, HD⟩ := hrel
      clear HRD
      have hle' := HD.out.ints.le
      have hm' : cap' ≤ 9223372036854775807 := HD.out.ints.max
      cases l with
      | nil =>
        obtain rfl : n' = 0 := by simpa using HD.out.ints.len.symm
        obtain ⟨k0, k1, k2, f0, f1, f2, u0⟩ := HD.out.st.cells
        obtain ⟨l0, l1, l2, g0, g1, g2, u1⟩ := HD.out.out.cells
        have hgo : s' = R := HD.out.go
        have HGO := Lib.hid hgo; clear hgo
        go_wp2
        simp [bodyPost, results, Tryd.results16, go_sem, l0, l1, l2]
        have hR := HGO.out
        subst hR
        exact ⟨⟨rfl, rfl, rfl⟩, below_set3 HD.out.bel (Nat.le_succ B) _ _ _⟩
      | cons x r =>
        obtain ⟨m, rfl⟩ : ∃ m, n' = m + 1 := ⟨r.length, by simpa using HD.out.ints.len.symm⟩
        have hat := at_of_right HD.out.rt
        have HC := Lib.hid (step_any B s' x r o' (m + 1) cap' wr HD.out.st hat.1 hat.2 (HD.out.i64 x (by simp)) HD.out.ints HD.out.off (HT.out.below HD.out.bel h2) h2)
        clear hat
        go_wp2_with fail
        refine HC.out.mono ?_
        rintro e w3 ⟨o3, n3, cap3, rfl, hi3, ho3, hs3, hk3⟩
        have HD3 := Lib.hid (HD.out.step hi3 ho3 hs3 hk3)
        have hn3 : n3 ≤ m := by
          have h1 := sg.step_len s' x r
          have h4 := hi3.len
          have h5 := HD.out.ints.len
          simp only [List.length_cons] at h5
          omega
        clear hi3 ho3 hs3 hk3 HC
        go_wp2_with fail
        go_roundg n3
        case measure => omega
        case rel => exact ⟨_, _, _, _, _, rfl, Nat.le_refl _, HD3⟩
end Go.Proofs.YtgkodjkhhmcnnaaDoor.S5
