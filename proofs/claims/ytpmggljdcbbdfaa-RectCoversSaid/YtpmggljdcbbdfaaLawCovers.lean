/- RectCovers returns true for every list of rectangles, in every memory, and leaves everything that was there as it was. No condition. -/
import Derived.Test.YtpmggljdcbbdfaaRefCover
namespace Go.Proofs.Ytpmggljdcbbdfaa
open Go.ChangeShapes Go.WideShapes Go.ChangeAt Go.RowKit rm
attribute [local go_sem ↓] Go.wp_at_zero Go.wp_at_succ
attribute [local go_sem ↓ 10000] run_mn run_mx

theorem lt_or3 (T : Int) : 3000 < T ∨ T ≤ 3000 := by omega

set_option maxRecDepth 100000 in
set_option maxHeartbeats 1600000 in
theorem covers_walk (o : Option Addr) (n cap : Nat) (L : List RR) (w : World) (sz : SliceR w o n cap L) :
    Calls Try.prog 5 #[.slice o n cap] w fun e w' => e = .returned (.bool true) ∧ Below w.heap.size w w' := by
  have hlen : ((L.take 24).map clean).length = min n 24 := by rw [List.length_map, List.length_take, sz.len]; omega
  have hget := fun (k : Nat) (r : RR) => clean_at L (k := k) (r := r)
  have hle : covV L ≤ arS ((L.take 24).map clean) := (cells_le _ (ok_map L)).2
  have hbd : ∀ k : Nat, 0 ≤ arS (((L.take 24).map clean).take k) ∧ arS (((L.take 24).map clean).take k) ≤ 40000 * k := fun k => by
    have h1 := arS_bd (((L.take 24).map clean).take k) (fun p hp => ok_map L p (List.mem_of_mem_take hp))
    have h3 : (((L.take 24).map clean).take k).length ≤ k := by rw [List.length_take]; omega
    omega
  have hc1 := fun W h => cover_v o n cap L W h
  have hc2 := fun W h => refCover_any o n cap L W h
  generalize covV L = CV at *
  generalize (L.take 24).map clean = D at *
  generalize hmm : min n 24 = m at *
  have hmn : m ≤ n := by omega
  have hm24 : m ≤ 24 := by omega
  have HMM := Lib.hid hmm; clear hmm
  have HLEN := Lib.hid hlen; clear hlen
  have HGET := Lib.hid hget; clear hget
  have HLE := Lib.hid hle; clear hle
  have HBD := Lib.hid hbd; clear hbd
  have HC1 := Lib.hid hc1; clear hc1
  have HC2 := Lib.hid hc2; clear hc2
  have HZ := Lib.hid sz; clear sz
  go_enter Try.func5, Try.ntmps5
  go_wp2_with fail
  refine (alive_any _).mono ?_
  rintro e w1 ⟨rfl, hb1⟩
  go_wp2_with fail
  go_loopg [3, 4] m (fun gg s3 s4 wr => ∃ (i : Nat) (T : Int), s4 = .int .i64 i ∧ s3 = .int .i64 T ∧ i ≤ m ∧ m - i ≤ gg ∧ Hid (T = arS (D.take i)) ∧ Below w.heap.size w wr)
  case atStart => exact ⟨0, 0, rfl, rfl, Nat.zero_le _, by omega, Lib.hid (by rw [List.take_zero]; rfl), hb1⟩
  case round =>
    obtain ⟨i, T, rfl, rfl, hi, hgg, hT, hbel⟩ := hrel
    have hbd := HBD.out i
    rw [← hT.out] at hbd
    by_cases hlt : i < m
    · obtain ⟨b, off, r, rfl, hr, hb, k0, k1, k2, k3⟩ := (HZ.out.below hbel (Nat.le_refl _)).one (k := i) (by omega)
      have hq := HGET.out i r hr (by omega)
      have hbd' := HBD.out (i + 1)
      rw [take_one hq, arS_snoc, ← hT.out] at hbd'
      have hnext : T + ar (clean r) = arS (D.take (i + 1)) := by rw [take_one hq, arS_snoc, ← hT.out]
      obtain ⟨rx, ry, rw', rh⟩ := r
      dsimp only at k0 k1 k2 k3
      have hav : arV rx ry rw' rh = ar (clean ⟨rx, ry, rw', rh⟩) := rfl
      have hki : (i : Int) < (n : Int) := by omega
      have hki2 : (i : Int) < 24 := by omega
      generalize ar (clean ⟨rx, ry, rw', rh⟩) = ra at *
      have HAV := Lib.hid hav; have HNX := Lib.hid hnext
      clear hav hnext hq hr
      go_wp2_with fail
      refine (area_v _ _ _ _ _).mono ?_
      rw [HAV.out]
      rintro e w2 ⟨rfl, hb2⟩
      have hbel2 := hbel.trans (hb2.mono hbel.size)
      clear k0 k1 k2 k3 hb
      go_wp2_with fail
      go_roundg (m - (i + 1))
      case measure => omega
      case rel => exact ⟨i + 1, T + ra, by go_num, by go_num, by omega, Nat.le_refl _, HNX, hbel2⟩
    · obtain rfl : i = m := by omega
      have e : D.take i = D := List.take_of_length_le (by rw [HLEN.out]; exact Nat.le_refl _)
      have HTT : Hid (T = arS D) := Lib.hid (by rw [hT.out, e])
      have hzz := HZ.out.below hbel (Nat.le_refl _)
      have hbelW := hbel
      clear hT e hgg
      by_cases hi24 : i < 24
      · obtain rfl : i = n := by have := HMM.out; omega
        have hi24' : (i : Int) < 24 := by omega
        rcases lt_or3 T with hg | hg
        · have hg' : decide (3000 < T) = true := decide_eq_true hg
          go_wp2_with fail
          refine (HC1.out _ hzz).mono ?_
          rintro e w2 ⟨rfl, hb2⟩
          have hle' : decide (CV ≤ T) = true := decide_eq_true (by rw [HTT.out]; exact HLE.out)
          go_wp2_with fail
          go_ret
          exact ⟨rfl, hbelW.trans (hb2.mono hbelW.size)⟩
        · have hg' : decide (3000 < T) = false := decide_eq_false (by omega)
          go_wp2_with fail
          refine (HC1.out _ hzz).mono ?_
          rintro e w2 ⟨rfl, hb2⟩
          go_wp2_with fail
          refine (HC2.out _ (hzz.below hb2 (Nat.le_refl _))).mono ?_
          rintro e w3 ⟨rfl, hb3⟩
          have heq : (CV == CV) = true := by simp
          go_wp2_with fail
          go_ret
          exact ⟨rfl, (hbelW.trans (hb2.mono hbelW.size)).trans (hb3.mono (Nat.le_trans hbelW.size hb2.size))⟩
      · obtain rfl : i = 24 := by omega
        rcases Nat.lt_or_ge 24 n with hn | hn
        · have hki : (24 : Int) < (n : Int) := by omega
          rcases lt_or3 T with hg | hg
          · have hg' : decide (3000 < T) = true := decide_eq_true hg
            go_wp2_with fail
            refine (HC1.out _ hzz).mono ?_
            rintro e w2 ⟨rfl, hb2⟩
            have hle' : decide (CV ≤ T) = true := decide_eq_true (by rw [HTT.out]; exact HLE.out)
            go_wp2_with fail
            go_ret
            exact ⟨rfl, hbelW.trans (hb2.mono hbelW.size)⟩
          · have hg' : decide (3000 < T) = false := decide_eq_false (by omega)
            go_wp2_with fail
            refine (HC1.out _ hzz).mono ?_
            rintro e w2 ⟨rfl, hb2⟩
            go_wp2_with fail
            refine (HC2.out _ (hzz.below hb2 (Nat.le_refl _))).mono ?_
            rintro e w3 ⟨rfl, hb3⟩
            have heq : (CV == CV) = true := by simp
            go_wp2_with fail
            go_ret
            exact ⟨rfl, (hbelW.trans (hb2.mono hbelW.size)).trans (hb3.mono (Nat.le_trans hbelW.size hb2.size))⟩
        · obtain rfl : n = 24 := by omega
          rcases lt_or3 T with hg | hg
          · have hg' : decide (3000 < T) = true := decide_eq_true hg
            go_wp2_with fail
            refine (HC1.out _ hzz).mono ?_
            rintro e w2 ⟨rfl, hb2⟩
            have hle' : decide (CV ≤ T) = true := decide_eq_true (by rw [HTT.out]; exact HLE.out)
            go_wp2_with fail
            go_ret
            exact ⟨rfl, hbelW.trans (hb2.mono hbelW.size)⟩
          · have hg' : decide (3000 < T) = false := decide_eq_false (by omega)
            go_wp2_with fail
            refine (HC1.out _ hzz).mono ?_
            rintro e w2 ⟨rfl, hb2⟩
            go_wp2_with fail
            refine (HC2.out _ (hzz.below hb2 (Nat.le_refl _))).mono ?_
            rintro e w3 ⟨rfl, hb3⟩
            have heq : (CV == CV) = true := by simp
            go_wp2_with fail
            go_ret
            exact ⟨rfl, (hbelW.trans (hb2.mono hbelW.size)).trans (hb3.mono (Nat.le_trans hbelW.size hb2.size))⟩

set_option maxRecDepth 100000 in
theorem rectCovers_lifted (os : Os) (started : os.Started) (H : Type) (enc : TypeId × Value → H) :
    ReturnsInHanded {} Try.checked os 5 .any (Rows.rectCoversSpec.pre6 enc Try.prog Try.f5 Rows.rectCoversRow.domain false) (Rows.rectCoversSpec.post enc Try.prog Try.f5 false true false false) := by
  refine returnsInHanded_of_change (C := Try.checked) own started (by kernel_rfl) Try.func5
    (ChangeSpec.witness6 (enc := enc) (C := Try.checked) false ⟨#[], #[.slice none 0 0], []⟩ 8 (by kernel_rfl) (by kernel_rfl) (by kernel_rfl) (by kernel_rfl)) ?_
  intro W base args ds gs before hval0 hW hcnd _
  have hval : ∀ (j : Nat) t v, Try.f5.params[j]? = some t → args[j]? = some v → Value.okWide Try.prog W .any base t v := hval0
  have hW' := hW
  obtain ⟨p, q, hA0, hV, rfl, hfz, hnd⟩ := hW
  have hA : DataW.TrodAll enc Try.prog W 0 (fun _ => true) true Try.f5.params.toList args.toList ds p := hA0
  obtain ⟨rfl, rfl⟩ := trodVars_none hV
  simp only [List.append_nil] at hW'
  have hlt : ∀ x ∈ p, x.block < W.heap.size := fun x hx => by simpa using hW'.lt x hx
  rw [Try.params5] at hA hval
  have hargs := fun W' (hb : Below W.heap.size W W') => args_below (enc := enc) hb _ _ _ _ (show TsOk [36] from ⟨okRects, trivial⟩) hlt hA
  obtain ⟨v0, vs0, d0, ds0, p0, q0, hargs0, rfl, rfl, h0, r0⟩ := trodAll_cons hA
  obtain ⟨rfl, rfl, rfl⟩ := trodAll_nil r0
  obtain rfl : args = #[v0] := by cases args; simp_all
  obtain ⟨o0, n0, cap0, L0, rfl, sz0⟩ := open_sliceR (hval 0 36 v0 rfl rfl) h0
  clear hA0 hval0
  refine (covers_walk o0 n0 cap0 L0  W sz0).mono fun e W' ⟨he, hb⟩ => ?_
  subst he
  exact ⟨_, rfl, _, _, _, [], _, [], hW', trodAll_mk1 (shut_bool Try.underlying4 _), hargs W' hb, rfl, hb.frame _, fun h => by cases h⟩

theorem rectCovers_holds : Rows.RectCoversSaid :=
  OpenClaim.holds_of_wide 5 Try.f5 rfl rfl rfl rfl rfl rfl rfl ⟨rfl, rfl, rfl, rfl, rfl⟩ rfl rfl rfl rfl rfl (by kernel_rfl) Try.func5 (by kernel_rfl)
    (of_decide_eq_true (by kernel_rfl)) (by unfold Func.isWrapper; first | (rw [if_pos (by decide +kernel)]; kernel_rfl) | (rw [if_neg (by decide +kernel)]; exact ⟨rfl, rfl⟩))
    (fun os started H enc _ => rectCovers_lifted os started H enc)

end Go.Proofs.Ytpmggljdcbbdfaa
