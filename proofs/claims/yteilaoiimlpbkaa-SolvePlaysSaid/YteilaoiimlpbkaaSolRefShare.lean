/- The document's Share answers the same lengths and the same error. -/
import Derived.Test.YteilaoiimlpbkaaSolRefS
namespace Go.Proofs.Yteilaoiimlpbkaa
namespace sl
theorem natsI_nil_iff (l : List Nat) : natsI l = [] ↔ l = [] := by cases l <;> simp [natsI]
theorem natsI_len (l : List Nat) : (natsI l).length = l.length := by simp [natsI]
theorem natsI_at (l : List Nat) (i : Nat) (h : i < l.length) : (natsI l).getD i 0 = ((l.getD i 0 : Nat) : Int) := by simp [natsI, List.getD, h]
theorem upPos_none (L : List Sz) (n : Nat) (h : places L = []) : upPos L n = L.length - 1 := by
  unfold upPos lasts
  rw [if_pos h]
  simp [List.getD, Nat.mod_one]
theorem upPos_some (L : List Sz) (n : Nat) (h : places L ≠ []) : upPos L n = (places L).getD (n % (places L).length) 0 := by
  unfold upPos lasts
  rw [if_neg h]
theorem want_one {t : Int} {s : Sz} (h : s.k = 1) : want t s = s.n := by unfold want; rw [if_pos h]
theorem want_two {t : Int} {s : Sz} (h : s.k = 2) (ht : 0 ≤ t * s.n) : want t s = if 100 ≤ t * s.n then t * s.n / 100 else 1 := by
  unfold want max1
  rw [if_neg (by omega), if_pos h]
  split <;> split <;> omega
end sl
open Go.RowKit
attribute [local go_sem ↓ 10000] run_mn run_mx
/-- two rows of numbers side by side, in memory that is new since w -/
structure TwoR (w W : World) (v u : Value) (xs ys : List Int) : Prop where
  r1 : RowN W w.heap.size v xs
  r2 : RowN W w.heap.size u ys
  ap : Apart v u
  bl : Below w.heap.size w W
theorem TwoR.push1 {w W w3 : World} {v u v' : Value} {xs ys zs : List Int} {o : Obj} (h : TwoR w W v u xs ys) (hr : RowN w3 w.heap.size v' zs) (hg : (W.alloc o).grownBy w3 v.ownBlock) (hm : Moved (W.alloc o) v v') : TwoR w w3 v' u zs ys :=
  ⟨hr, RowN.grown (World.ownsRow.alloc h.r2 o) hg h.ap, h.ap.moved hm (fun k hk => by have := (h.r2.blk k hk).2; simp; omega), (h.bl.alloc h.bl.size o).grown hg (by have := h.bl.size; simp; omega) (fun q hq => (h.r1.blk q hq).1)⟩
theorem TwoR.swap {w W : World} {v u : Value} {xs ys : List Int} (h : TwoR w W v u xs ys) : TwoR w W u v ys xs := ⟨h.r2, h.r1, h.ap.symm, h.bl⟩
theorem TwoR.below {w W W' : World} {v u : Value} {xs ys : List Int} (h : TwoR w W v u xs ys) (hb : Below W.heap.size W W') : TwoR w W' v u xs ys :=
  ⟨h.r1.below hb, h.r2.below hb, h.ap, h.bl.trans (hb.mono h.bl.size)⟩
theorem TwoR.next {w W W' : World} {v u v' : Value} {xs ys zs : List Int} (h : TwoR w W v u xs ys) (hr : RowN W' W.heap.size v' zs) (hb : Below W.heap.size W W') : TwoR w W' v' u zs ys :=
  ⟨rown_base hr h.bl.size, h.r2.below hb, fun k hk he => by have h1 := (hr.blk k hk).1; have h2 := (h.r2.blk k he).2; omega, h.bl.trans (hb.mono h.bl.size)⟩
theorem TwoR.ints {w W : World} {v u : Value} {xs ys : List Int} (h : TwoR w W v u xs ys) {n : Nat} (hn : xs.length = n) : ∃ o cap, v = .slice o n cap ∧ Ints W o n cap xs := by
  subst hn; exact h.r1.ints
theorem change_x (x : Int) (o : Option Addr) (n cap : Nat) (zs : List Int) (at_ : Nat) (hx' : x = (at_ : Int)) (d : Int) (w : World) (hx : Ints w o n cap zs) (hn : n ≤ 16) (hz : ∀ k, k < n → -100000 ≤ zs.getD k 0 ∧ zs.getD k 0 ≤ 100000) (hd0 : -1 ≤ d) (hd1 : d ≤ 1) :
    Calls Try.prog 21 #[.slice o n cap, .int .i64 x, .int .i64 d] w fun e w' => ∃ V, e = .returned V ∧ RowN w' w.heap.size V (sl.add zs at_ d) ∧ Below w.heap.size w w' := by
  subst hx'
  exact change_any o n cap zs at_ d w hx hn hz hd0 hd1
/-- numbers that are at least 1, and not too many: what their bounds are -/
theorem sum_bounds {out : List Int} (hp : ∀ x ∈ out, 1 ≤ x) (hs : out.sum ≤ 3200) : (∀ k, 0 ≤ (out.take k).sum ∧ (out.take k).sum ≤ 100000) ∧ ∀ k, k < out.length → -100000 ≤ out.getD k 0 ∧ out.getD k 0 ≤ 100000 := by
  refine ⟨fun k => by have := sum_take_le out hp 3200 hs k; omega, fun k hk => ?_⟩
  have h1 := hp _ (sl.getD_mem out k hk)
  have h2 := sl.le_sum out hp _ (sl.getD_mem out k hk)
  omega
set_option maxRecDepth 100000 in
set_option maxHeartbeats 6400000 in
theorem refShare_any (t : Int) (o : Option Addr) (n cap : Nat) (L : List sl.Sz) (w : World) (hs : SzIn w o n cap L) :
    Calls Try.prog 9 #[.int .i64 t, .slice o n cap] w (RShared t L w) := by
  have hm : cap ≤ 9223372036854775807 := hs.max
  have hle := hs.le
  have HS := Lib.hid hs
  have HLN := Lib.hid hs.len
  have HR := Lib.hid (fun k n W => right_any k n W)
  clear hs
  by_cases h0 : n = 0
  · subst h0
    have HE := Lib.hid (sl.err_none t L HLN.out)
    go_enter Try.func9, Try.ntmps9
    go_wp2_with fail
    go_ret2
    exact rshared_bad HE.out (by decide) (Below.refl _ _)
  have h0i : ((n : Int) == 0) = false := by simp; omega
  by_cases h1 : 200 < t
  · have HE := Lib.hid (sl.err_far t L h1)
    go_enter Try.func9, Try.ntmps9
    go_wp2_with fail
    go_ret2
    exact rshared_bad HE.out (by decide) (Below.refl _ _)
  have h1d : decide (200 < t) = false := decide_eq_false h1
  have h1' : t ≤ 200 := by omega
  have HN := Lib.hid (sl.err_next t L (by rw [HLN.out]; exact h0) h1')
  have HBAD := Lib.hid (sl.err_bad t L)
  clear h1
  go_enter Try.func9, Try.ntmps9
  go_wp2_with fail
  go_loopg [6] n (fun gg s6 wr => ∃ k : Nat, s6 = .int .i64 k ∧ k ≤ n ∧ n - k ≤ gg ∧ Hid ((L.take k).any (fun s => !sl.good s) = false ∧ Below w.heap.size w wr))
  case atStart => exact ⟨0, rfl, Nat.zero_le _, by omega, Lib.hid ⟨rfl, Below.refl _ _⟩⟩
  case round =>
    obtain ⟨k, rfl, hk, hgg, HA⟩ := hrel
    by_cases hlt : k < n
    · obtain ⟨b, off, rfl, hb, k0, k1⟩ := (HS.out.below HA.out.2).cell hlt
      have hkl : k < L.length := by rw [HLN.out]; exact hlt
      have hst := sl.any_snoc L k hkl
      rw [HA.out.1] at hst
      have HT := Lib.hid (fun h => sl.any_take L (k + 1) h)
      generalize L.getD k sl.z0 = s at *
      obtain ⟨sk, sn⟩ := s
      have HST := Lib.hid hst
      clear hst hkl
      have hki : (k : Int) < (n : Int) := by omega
      dsimp only at k0 k1
      cases hg : sl.good ⟨sk, sn⟩
      · have HG := Lib.hid hg
        clear hg
        have HE := Lib.hid (HBAD.out (HT.out (by rw [HST.out, HG.out]; rfl)))
        go_wp2_with fail
        refine (HR.out _ _ _).mono ?_
        rintro e w2 ⟨rfl, hb2⟩
        rw [HG.out]
        have HB2 := Lib.hid (HA.out.2.trans (hb2.mono HA.out.2.size))
        clear hb2
        go_wp2_with fail
        go_ret2
        exact rshared_bad HE.out (by decide) HB2.out
      · have HG := Lib.hid hg
        clear hg
        go_wp2_with fail
        refine (HR.out _ _ _).mono ?_
        rintro e w2 ⟨rfl, hb2⟩
        rw [HG.out]
        have HB2 := Lib.hid (HA.out.2.trans (hb2.mono HA.out.2.size))
        clear hb2
        go_wp2_with fail
        go_roundg (n - (k + 1))
        case measure => omega
        case rel => exact ⟨k + 1, by go_num, by omega, Nat.le_refl _, Lib.hid ⟨by rw [HST.out, HG.out]; rfl, HB2.out⟩⟩
    · obtain rfl : k = n := by omega
      have HF : Hid (L.any (fun s => !sl.good s) = false) := Lib.hid (by have := HA.out.1; rwa [List.take_of_length_le (by rw [HLN.out]; exact Nat.le_refl _)] at this)
      have HB1 := Lib.hid HA.out.2
      have HN2 := Lib.hid (HN.out HF.out)
      have HGD := Lib.hid (sl.all_good L HF.out)
      clear HA HN HBAD hgg
      by_cases h2 : 16 < k
      · have HE : Hid (sl.err t L = 3) := Lib.hid (by rw [HN2.out, if_pos (by rw [HLN.out]; exact h2)])
        go_wp2_with fail
        go_ret2
        exact rshared_bad HE.out (by decide) HB1.out
      have h2' : k ≤ 16 := by omega
      by_cases h3 : t < (k : Int)
      · have HE : Hid (sl.err t L = 90) := Lib.hid (by rw [HN2.out, if_neg (by rw [HLN.out]; exact h2), if_pos (by rw [HLN.out]; exact h3)])
        go_wp2_with fail
        go_ret2
        exact rshared_bad HE.out (by decide) HB1.out
      have he : sl.err t L = 0 := by rw [HN2.out, if_neg (by rw [HLN.out]; exact h2), if_neg (by rw [HLN.out]; exact h3)]
      have HE := Lib.hid he
      have h3' : (k : Int) ≤ t := by omega
      have hk0 : 0 < k := by omega
      have hws := wants_sum_le t L he
      have hds := sl.down_start he
      clear he HN2 h2
      generalize wr = w1 at *
      have HO0 : Hid (RowN ((w1.alloc (.cells #[] 3)).alloc (.cells #[] 3)) w.heap.size (.slice (some ⟨w1.heap.size, 0, none⟩) 0 0) []) := Lib.hid (World.ownsRow.alloc (World.ownsRow_made (base := w.heap.size) (e := 3) (size := 1) w1 #[] 0 HB1.out.size (by unfold maxLen; omega) (by simp)) _)
      have HP0 : Hid (RowN ((w1.alloc (.cells #[] 3)).alloc (.cells #[] 3)) w.heap.size (.slice (some ⟨w1.heap.size + 1, 0, none⟩) 0 0) []) := Lib.hid (by
        have := World.ownsRow_made (base := w.heap.size) (e := 3) (size := 1) (w1.alloc (.cells #[] 3)) #[] 0 (by have := HB1.out.size; simp; omega) (by unfold maxLen; omega) (by simp)
        rwa [World.size_alloc] at this)
      have HB2 := Lib.hid ((HB1.out.alloc HB1.out.size (.cells #[] 3)).alloc (by have := HB1.out.size; simp; omega) (.cells #[] 3))
      have HAP : Hid (Apart (.slice (some ⟨w1.heap.size, 0, none⟩) 0 0) (.slice (some ⟨w1.heap.size + 1, 0, none⟩) 0 0)) := Lib.hid (fun q hq he => by
        simp [Value.ownBlock] at hq he
        omega)
      have HWS := Lib.hid hws
      have HDS := Lib.hid hds
      have h2d : decide ((16 : Int) < (k : Int)) = false := decide_eq_false (by omega)
      have ht0 : 0 ≤ t := by omega
      have HT0 : Hid (TwoR w ((w1.alloc (.cells #[] 3)).alloc (.cells #[] 3)) (.slice (some ⟨w1.heap.size, 0, none⟩) 0 0) (.slice (some ⟨w1.heap.size + 1, 0, none⟩) 0 0) [] []) := Lib.hid ⟨HO0.out, HP0.out, HAP.out, HB2.out⟩
      clear hws hds HO0 HP0 HB2 HAP HB1 HF HR
      go_wp2_with fail
      go_loopg [7, 8, 9] k (fun gg s7 s8 s9 wr => ∃ i : Nat, s9 = .int .i64 i ∧ i ≤ k ∧ k - i ≤ gg ∧ Hid (TwoR w wr s7 s8 (sl.wants t (L.take i)) (natsI (sl.places (L.take i)))))
      case atStart => exact ⟨0, rfl, Nat.zero_le _, by omega, HT0⟩
      case round =>
        obtain ⟨i, rfl, hik, hgg, HA⟩ := hrel
        clear HT0
        have hl7 : (sl.wants t (L.take i)).length = i := by rw [sl.wants_len, List.length_take, HLN.out]; omega
        obtain ⟨o7, c7, rfl, hi7⟩ := HA.out.ints hl7
        obtain ⟨m, hm8⟩ : ∃ m, (natsI (sl.places (L.take i))).length = m := ⟨_, rfl⟩
        have hm16 : m ≤ i := by rw [← hm8, sl.natsI_len]; have := sl.places_len (L.take i); rw [List.length_take] at this; omega
        obtain ⟨o8, c8, rfl, hi8⟩ := HA.out.swap.ints hm8
        have hc7 : c7 ≤ 9223372036854775807 := hi7.max
        have hc8 : c8 ≤ 9223372036854775807 := hi8.max
        have HL7 := Lib.hid hl7
        have HM8 := Lib.hid hm8
        clear hi7 hi8 hl7 hm8
        by_cases hlt : i < k
        · obtain ⟨b, off, rfl, hb, k0, k1⟩ := (HS.out.below HA.out.bl).cell hlt
          have hkl : i < L.length := by rw [HLN.out]; exact hlt
          have hws := sl.wants_snoc t L i hkl
          have hps := sl.places_snoc L i hkl
          have hgd := sl.good_at L HGD.out i hkl
          generalize L.getD i sl.z0 = s at *
          have hgi := (sl.good_iff s).1 hgd
          obtain ⟨sk, sn⟩ := s
          dsimp only at k0 k1 hps hgi
          have HW := Lib.hid hws
          have HP := Lib.hid hps
          have hki : (i : Int) < (k : Int) := by omega
          clear hws hps hkl hgd
          by_cases e1 : sk = 1
          · subst e1
            have HW2 : Hid (sl.wants t (L.take (i + 1)) = sl.wants t (L.take i) ++ [sn]) := Lib.hid (by rw [HW.out, sl.want_one rfl])
            have HP2 : Hid (sl.places (L.take (i + 1)) = sl.places (L.take i)) := Lib.hid (by rw [HP.out, if_neg (by decide)])
            clear hgi
            go_wp2_with (at_builtin; refine wpList_push rfl _ _ rfl w.heap.size (.slice o7 i c7) (sl.wants t (L.take i)) sn rfl wr rfl HA.out.r1 wr.heap.size rfl rfl (by rw [HL7.out]; omega) HA.out.bl.size ?_)
            intro v7 w4 hr7 hg7 hv7
            have HA4 := Lib.hid (HA.out.push1 hr7 hg7 hv7)
            obtain ⟨o7', c7', hs7, hi7⟩ := HA4.out.ints (n := i + 1) (by rw [List.length_append, HL7.out]; rfl)
            subst hs7
            have hc7' : c7' ≤ 9223372036854775807 := hi7.max
            clear hr7 hg7 hv7 hi7
            go_wp2_with fail
            go_roundg (k - (i + 1))
            case measure => omega
            case rel => exact ⟨i + 1, by go_num, by omega, Nat.le_refl _, Lib.hid (by rw [HW2.out, HP2.out]; exact HA4.out)⟩
          · have e1b : (sk == 1) = false := by simpa using e1
            by_cases e2 : sk = 2
            · subst e2
              have n1 : 1 ≤ sn := by omega
              have n2 : sn ≤ 100 := by omega
              have p1 : 0 ≤ t * sn := Int.mul_nonneg ht0 (by omega)
              have p2 : t * sn ≤ 200 * 100 := Int.mul_le_mul h1' n2 (by omega) (by omega)
              have HP2 : Hid (sl.places (L.take (i + 1)) = sl.places (L.take i)) := Lib.hid (by rw [HP.out, if_neg (by decide)])
              have HWW : Hid (sl.want t ⟨2, sn⟩ = if 100 ≤ t * sn then t * sn / 100 else 1) := Lib.hid (sl.want_two rfl p1)
              clear hgi e1
              by_cases h100 : 100 ≤ t * sn
              · have HW2 : Hid (sl.wants t (L.take (i + 1)) = sl.wants t (L.take i) ++ [t * sn / 100]) := Lib.hid (by rw [HW.out, HWW.out, if_pos h100])
                go_wp2_with (at_builtin; refine wpList_push rfl _ _ rfl w.heap.size (.slice o7 i c7) (sl.wants t (L.take i)) (t * sn / 100) rfl wr rfl HA.out.r1 wr.heap.size rfl rfl (by rw [HL7.out]; omega) HA.out.bl.size ?_)
                intro v7 w4 hr7 hg7 hv7
                have HA4 := Lib.hid (HA.out.push1 hr7 hg7 hv7)
                obtain ⟨o7', c7', hs7, hi7⟩ := HA4.out.ints (n := i + 1) (by rw [List.length_append, HL7.out]; rfl)
                subst hs7
                have hc7' : c7' ≤ 9223372036854775807 := hi7.max
                clear hr7 hg7 hv7 hi7
                go_wp2_with fail
                go_roundg (k - (i + 1))
                case measure => omega
                case rel => exact ⟨i + 1, by go_num, by omega, Nat.le_refl _, Lib.hid (by rw [HW2.out, HP2.out]; exact HA4.out)⟩
              · have HW2 : Hid (sl.wants t (L.take (i + 1)) = sl.wants t (L.take i) ++ [1]) := Lib.hid (by rw [HW.out, HWW.out, if_neg h100])
                go_wp2_with (at_builtin; refine wpList_push rfl _ _ rfl w.heap.size (.slice o7 i c7) (sl.wants t (L.take i)) 1 rfl wr rfl HA.out.r1 wr.heap.size rfl rfl (by rw [HL7.out]; omega) HA.out.bl.size ?_)
                intro v7 w4 hr7 hg7 hv7
                have HA4 := Lib.hid (HA.out.push1 hr7 hg7 hv7)
                obtain ⟨o7', c7', hs7, hi7⟩ := HA4.out.ints (n := i + 1) (by rw [List.length_append, HL7.out]; rfl)
                subst hs7
                have hc7' : c7' ≤ 9223372036854775807 := hi7.max
                clear hr7 hg7 hv7 hi7
                go_wp2_with fail
                go_roundg (k - (i + 1))
                case measure => omega
                case rel => exact ⟨i + 1, by go_num, by omega, Nat.le_refl _, Lib.hid (by rw [HW2.out, HP2.out]; exact HA4.out)⟩
            · have e3 : sk = 0 := by omega
              subst e3
              have HW2 : Hid (sl.wants t (L.take (i + 1)) = sl.wants t (L.take i) ++ [1]) := Lib.hid (by rw [HW.out, sl.want_flex _ _ rfl])
              have HP2 : Hid (natsI (sl.places (L.take (i + 1))) = natsI (sl.places (L.take i)) ++ [(i : Int)]) := Lib.hid (by rw [HP.out, if_pos rfl, natsI_snoc])
              clear hgi e1 e2
              go_wp2_with (at_builtin; refine wpList_push rfl _ _ rfl w.heap.size (.slice o8 m c8) (natsI (sl.places (L.take i))) (i : Int) rfl wr rfl HA.out.r2 wr.heap.size rfl rfl (by rw [HM8.out]; omega) HA.out.bl.size ?_)
              intro v8 w3 hr8 hg8 hv8
              have HA3 := Lib.hid ((HA.out.swap.push1 hr8 hg8 hv8).swap)
              obtain ⟨o8', c8', hs8, hi8⟩ := HA3.out.swap.ints (n := m + 1) (by rw [List.length_append, HM8.out]; rfl)
              subst hs8
              have hc8' : c8' ≤ 9223372036854775807 := hi8.max
              clear hr8 hg8 hv8 hi8 HA
              go_wp2_with (at_builtin; refine wpList_push rfl _ _ rfl w.heap.size (.slice o7 i c7) (sl.wants t (L.take i)) 1 rfl w3 rfl HA3.out.r1 w3.heap.size rfl rfl (by rw [HL7.out]; omega) HA3.out.bl.size ?_)
              intro v7 w4 hr7 hg7 hv7
              have HA4 := Lib.hid (HA3.out.push1 hr7 hg7 hv7)
              obtain ⟨o7', c7', hs7, hi7⟩ := HA4.out.ints (n := i + 1) (by rw [List.length_append, HL7.out]; rfl)
              subst hs7
              have hc7' : c7' ≤ 9223372036854775807 := hi7.max
              clear hr7 hg7 hv7 hi7
              go_wp2_with fail
              go_roundg (k - (i + 1))
              case measure => omega
              case rel => exact ⟨i + 1, by go_num, by omega, Nat.le_refl _, Lib.hid (by rw [HW2.out, HP2.out]; exact HA4.out)⟩
        · obtain rfl : i = k := by omega
          have hLi : L.take i = L := by rw [List.take_of_length_le (by rw [HLN.out]; exact Nat.le_refl _)]
          have HA1 : Hid (TwoR w wr (.slice o7 i c7) (.slice o8 m c8) (sl.wants t L) (natsI (sl.places L))) := Lib.hid (by have := HA.out; rwa [hLi] at this)
          have HM : Hid ((sl.places L).length = m) := Lib.hid (by have := HM8.out; rwa [hLi, sl.natsI_len] at this)
          have HL0 : Hid (L.length ≠ 0) := Lib.hid (by rw [HLN.out]; omega)
          clear hLi HA HL7 HM8 hc7
          go_wp2_with fail
          generalize wr = w2 at *
          go_loopg [7] 3200 (fun gg s7 wr => ∃ out : List Int, (out.sum - t).toNat ≤ gg ∧ Hid (TwoR w wr s7 (.slice o8 m c8) out (natsI (sl.places L)) ∧ sl.Down t L out ∧ out.sum ≤ 3200))
          case atStart => exact ⟨sl.wants t L, by have := HWS.out; omega, Lib.hid ⟨HA1.out, HDS.out, HWS.out⟩⟩
          case round =>
            obtain ⟨out, hgg, HA⟩ := hrel
            clear HA1 HDS HWS
            have hlo : out.length = i := by rw [HA.out.2.1.1, HLN.out]
            obtain ⟨ao, ac, hs7, hia⟩ := HA.out.1.ints hlo
            subst hs7
            have hac : ac ≤ 9223372036854775807 := hia.max
            obtain ⟨hb1, hb2⟩ := sum_bounds HA.out.2.1.2.1 HA.out.2.2
            rw [hlo] at hb2
            have HIA := Lib.hid hia
            have HSM := Lib.hid (sum_any ao i ac out wr hia h2' (fun k _ => hb1 k))
            have HB2 := Lib.hid hb2
            have HLO := Lib.hid hlo
            obtain ⟨sm, hsm⟩ : ∃ sm, out.sum = sm := ⟨_, rfl⟩
            have HSUM := Lib.hid hsm
            rw [hsm] at hgg HSM
            have hs0 : 0 ≤ sm ∧ sm ≤ 100000 := by
              have := hb1 i
              rwa [List.take_of_length_le (by rw [hlo]; exact Nat.le_refl _), hsm] at this
            clear hia hb1 hb2 hlo hsm
            by_cases hgt : t < sm
            · have HNX := Lib.hid (sl.down_next HE.out HA.out.2.1 (by rw [HSUM.out]; exact hgt))
              go_wp2_with fail
              refine HSM.out.mono ?_
              rintro e wS ⟨rfl, hw⟩
              replace hw := hw.symm
              subst hw
              go_wp2_with fail
              go_loopg [11, 12] i (fun g2 s11 s12 wi => ∃ q la : Nat, s12 = .int .i64 q ∧ s11 = .int .i64 la ∧ q ≤ i ∧ i - q ≤ g2 ∧ Hid (la = sl.lastBig (out.take q) ∧ wi = wr))
              case atStart => exact ⟨0, 0, rfl, rfl, Nat.zero_le _, by omega, Lib.hid ⟨rfl, rfl⟩⟩
              case round =>
                obtain ⟨q, la, rfl, rfl, hqi, hg2, HQ⟩ := hrel
                obtain rfl := HQ.out.2
                by_cases hlt2 : q < i
                · obtain ⟨b, off, rfl, hb, k0, k1⟩ := (HS.out.below HA.out.1.bl).cell hlt2
                  obtain ⟨b2, off2, rfl, hb2, kz⟩ := HIA.out.cell hlt2
                  have hone := HA.out.2.1.2.2.1 q (by rw [HLN.out]; exact hlt2)
                  have hql : q < out.length := by rw [HLO.out]; exact hlt2
                  have hsn := sl.lastBig_snoc (out.take q) (out.getD q 0)
                  rw [← sl.int_take_snoc out q hql, List.length_take, Nat.min_eq_left (Nat.le_of_lt hql)] at hsn
                  generalize out.getD q 0 = z at *
                  generalize L.getD q sl.z0 = s at *
                  obtain ⟨sk, sn⟩ := s
                  dsimp only at k0 k1 hone
                  clear k1 hql
                  have HSN := Lib.hid hsn
                  have hqk : (q : Int) < (i : Int) := by omega
                  clear hsn
                  by_cases hz : 1 < z
                  · have hk0' : sk ≠ 0 := fun h => by have := hone h; omega
                    have e1 : (sk == 0) = false := by simpa using hk0'
                    have e2 : (sk != 0) = true := by simpa using hk0'
                    have HL2 : Hid (q = sl.lastBig (out.take (q + 1))) := Lib.hid (by rw [HSN.out, if_pos hz])
                    clear hk0' hone
                    go_wp2_with fail
                    go_roundg (i - (q + 1))
                    case measure => omega
                    case rel => exact ⟨q + 1, q, by go_num, rfl, by omega, Nat.le_refl _, Lib.hid ⟨HL2.out, rfl⟩⟩
                  · have HL2 : Hid (la = sl.lastBig (out.take (q + 1))) := Lib.hid (by rw [HSN.out, if_neg hz]; exact HQ.out.1)
                    clear hone
                    go_wp2_with fail
                    go_roundg (i - (q + 1))
                    case measure => omega
                    case rel => exact ⟨q + 1, la, by go_num, rfl, by omega, Nat.le_refl _, Lib.hid ⟨HL2.out, rfl⟩⟩
                · obtain rfl : q = i := by omega
                  have hla : la = sl.lastBig out := by
                    have := HQ.out.1
                    rwa [List.take_of_length_le (by rw [HLO.out]; exact Nat.le_refl _)] at this
                  have HCH := Lib.hid (change_any ao q ac out la (-1) wr HIA.out h2' HB2.out (by decide) (by decide))
                  rw [hla] at HCH
                  have HLA := Lib.hid hla
                  clear hla HQ
                  go_wp2_with fail
                  rw [HLA.out]
                  refine HCH.out.mono ?_
                  rintro e w3 ⟨V, rfl, hr3, hb3⟩
                  have HA3 := Lib.hid (HA.out.1.next hr3 hb3)
                  clear hr3 hb3
                  go_wp2_with fail
                  go_roundg (sm - 1 - t).toNat
                  case measure => omega
                  case rel =>
                    obtain ⟨n1, _, _, n4⟩ := HNX.out
                    rw [HSUM.out] at n4
                    exact ⟨_, by rw [n4]; exact Nat.le_refl _, Lib.hid ⟨HA3.out, n1, by rw [n4]; have := HA.out.2.2; rw [HSUM.out] at this; omega⟩⟩
            · have HUS := Lib.hid (sl.up_start HE.out HA.out.2.1 (by rw [HSUM.out]; omega))
              have HPO := Lib.hid HA.out.2.1.2.1
              go_wp2_with fail
              refine HSM.out.mono ?_
              rintro e wS ⟨rfl, hw⟩
              replace hw := hw.symm
              subst hw
              have HST : Hid (TwoR w wr (.slice ao i ac) (.slice o8 m c8) out (natsI (sl.places L)) ∧ sl.Up t L 0 out ∧ (∀ x ∈ out, 1 ≤ x) ∧ out.sum ≤ 3200) := Lib.hid ⟨HA.out.1, HUS.out, HPO.out, HA.out.2.2⟩
              have hst0 : (t - sm).toNat ≤ 200 := by omega
              clear HUS HPO HA HIA HB2 HLO HSM hgg
              go_wp2_with fail
              generalize wr = w5 at *
              go_loopg [7, 13] 200 (fun gg s7 s13 wr => ∃ (q : Nat) (out : List Int), s13 = .int .i64 q ∧ (t - out.sum).toNat ≤ gg ∧ q ≤ 1000 ∧ Hid (TwoR w wr s7 (.slice o8 m c8) out (natsI (sl.places L)) ∧ sl.Up t L q out ∧ (∀ x ∈ out, 1 ≤ x) ∧ out.sum ≤ 3200))
              case atStart => exact ⟨0, out, rfl, by rw [HSUM.out]; exact hst0, by omega, HST⟩
              case round =>
                clear HST HSUM hst0 hs0
                obtain ⟨q, out, rfl, hgg, hq, HA⟩ := hrel
                have hlo : out.length = i := by rw [HA.out.2.1.1, HLN.out]
                obtain ⟨ao, ac, hs7, hia⟩ := HA.out.1.ints hlo
                subst hs7
                have hac : ac ≤ 9223372036854775807 := hia.max
                obtain ⟨hb1, hb2⟩ := sum_bounds HA.out.2.2.1 HA.out.2.2.2
                rw [hlo] at hb2
                have HIA := Lib.hid hia
                have HSM := Lib.hid (sum_any ao i ac out wr hia h2' (fun k _ => hb1 k))
                have HB2 := Lib.hid hb2
                have HLO := Lib.hid hlo
                obtain ⟨sm, hsm⟩ : ∃ sm, out.sum = sm := ⟨_, rfl⟩
                have HSUM := Lib.hid hsm
                rw [hsm] at hgg HSM
                clear hia hb1 hb2 hlo hsm
                by_cases hgt2 : sm < t
                · obtain ⟨hu1, hu2⟩ := sl.up_next HE.out HA.out.2.1 (by rw [HSUM.out]; exact hgt2)
                  have hpl := sl.upPos_lt L q HL0.out
                  rw [HLN.out] at hpl
                  have hql : q < 200 := by
                    have hb := sl.left_bounds t L HGD.out h1' L.length (Nat.le_refl _)
                    rw [List.take_of_length_le (Nat.le_refl _)] at hb
                    omega
                  have hadd := sl.add_sum out (sl.upPos L q) 1 (by rw [HLO.out]; exact hpl)
                  rw [HSUM.out] at hadd
                  have HADD := Lib.hid hadd
                  have HU1 := Lib.hid hu1
                  have HPS := Lib.hid (sl.add_pos out (sl.upPos L q) 1 (by decide) HA.out.2.2.1)
                  have HUN := Lib.hid (sl.upPos_none L q)
                  have HUP := Lib.hid (sl.upPos_some L q)
                  clear hu1 hu2 hadd
                  generalize hP : sl.upPos L q = P at *
                  clear hP
                  by_cases hm0 : m = 0
                  · subst hm0
                    have HX : Hid (((i : Int) - 1) = (P : Int)) := Lib.hid (by rw [HUN.out (List.length_eq_zero_iff.1 HM.out), HLN.out]; omega)
                    have HCH := Lib.hid (change_x ((i : Int) - 1) ao i ac out P HX.out 1 wr HIA.out h2' HB2.out (by decide) (by decide))
                    go_wp2_with fail
                    refine HSM.out.mono ?_
                    rintro e wS ⟨rfl, hw⟩
                    replace hw := hw.symm
                    subst hw
                    go_wp2_with fail
                    refine HCH.out.mono ?_
                    rintro e w3 ⟨V, rfl, hr3, hb3⟩
                    have HA3 := Lib.hid (HA.out.1.next hr3 hb3)
                    clear hr3 hb3
                    go_wp2_with fail
                    go_roundg (t - (sm + 1)).toNat
                    case measure => omega
                    case rel => exact ⟨q + 1, _, by go_num, by rw [HADD.out]; exact Nat.le_refl _, by omega, Lib.hid ⟨HA3.out, HU1.out, HPS.out, by rw [HADD.out]; omega⟩⟩
                  · have hm0i : ((m : Int) == 0) = false := by simp; omega
                    have hmp : 0 < m := by omega
                    have hqm : q % m < m := Nat.mod_lt q hmp
                    obtain ⟨o8', c8', he8, hi8⟩ := HA.out.1.swap.ints (n := m) (by rw [sl.natsI_len]; exact HM.out)
                    cases he8
                    obtain ⟨b8, off8, rfl, hb8, kc⟩ := hi8.cell hqm
                    rw [sl.natsI_at _ _ (by rw [HM.out]; exact hqm)] at kc
                    have hPP : (sl.places L).getD (q % m) 0 = P := by
                      have := HUP.out (fun h => by have := HM.out; rw [h] at this; simp at this; omega)
                      rw [HM.out] at this
                      exact this.symm
                    rw [hPP] at kc
                    have HCH := Lib.hid (change_any ao i ac out P 1 wr HIA.out h2' HB2.out (by decide) (by decide))
                    clear hi8 hPP hm0
                    go_wp2_with fail
                    refine HSM.out.mono ?_
                    rintro e wS ⟨rfl, hw⟩
                    replace hw := hw.symm
                    subst hw
                    go_wp2_with fail
                    refine HCH.out.mono ?_
                    rintro e w3 ⟨V, rfl, hr3, hb3⟩
                    have HA3 := Lib.hid (HA.out.1.next hr3 hb3)
                    clear hr3 hb3
                    go_wp2_with fail
                    go_roundg (t - (sm + 1)).toNat
                    case measure => omega
                    case rel => exact ⟨q + 1, _, by go_num, by rw [HADD.out]; exact Nat.le_refl _, by omega, Lib.hid ⟨HA3.out, HU1.out, HPS.out, by rw [HADD.out]; omega⟩⟩
                · have HFIN := Lib.hid (sl.up_end HA.out.2.1 (by rw [HSUM.out]; omega))
                  go_wp2_with fail
                  refine HSM.out.mono ?_
                  rintro e wS ⟨rfl, hw⟩
                  replace hw := hw.symm
                  subst hw
                  go_wp2_with fail
                  go_ret2
                  exact rshared_ok HE.out HA.out.1.r1 HFIN.out HA.out.1.bl
end Go.Proofs.Yteilaoiimlpbkaa
