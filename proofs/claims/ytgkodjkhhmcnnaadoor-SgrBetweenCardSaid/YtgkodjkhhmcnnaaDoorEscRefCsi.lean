/- The document's Csi. -/
import Derived.Test.YtgkodjkhhmcnnaaDoorEscNumM
import Derived.Lib.AppendZeros
namespace Go.Proofs.YtgkodjkhhmcnnaaDoor
open Go.RowKit

theorem upto_any_len (priv : Nat) (ps : List Int) (k : Nat) (h : k ≤ 16) : (es.upto priv ps k).length ≤ 400 := by
  have := es.upto_len priv ps k
  omega
theorem dec_len (u : Nat) (h : u ≤ 9999) : (Lib.decDigits u).length ≤ 21 := by
  have := Lib.itoa_length_le (u : Int) (by omega) (by omega)
  rw [Lib.itoa_nonneg] at this
  exact this
set_option maxRecDepth 100000 in
set_option maxHeartbeats 3200000 in
theorem refCsi_any (priv : Nat) (final : UInt8) (ps : List Int) (o : Option Addr) (n cap : Nat) (w : World) (hx : Nums .i64 w o n cap ps) (hpr : priv < 256) :
    Calls Tryd.prog 25 #[.int .u8 priv, .slice o n cap, .int .u8 final.toNat] w fun e w' => ∃ ro rc, e = .returned (.slice ro (es.csiB priv ps final).length rc) ∧ Bts w' ro (es.csiB priv ps final).length rc (es.csiB priv ps final) ∧ Below w.heap.size w w' := by
  obtain ⟨i0, hi, hz0, hz1, hz2⟩ := info_parts infoB
  have hlen := hx.len
  have hmx : cap ≤ 9223372036854775807 := hx.max
  have hle := hx.le
  have HX := Lib.hid hx
  clear hx
  by_cases hp0 : priv = 0
  · subst hp0
    have HU0 : Hid (ByteArray.mk #[27, 91] = ByteArray.mk (es.upto 0 ps 0).toArray) := Lib.hid rfl
    go_enter Tryd.func25, Tryd.ntmps25
    go_wp2_with fail
    go_loopg [7, 8] (min n 16) (fun gg s7 s8 wr => ∃ (k : Nat), s8 = .int .i64 k ∧ s7 = .string ⟨(es.upto 0 ps k).toArray⟩ ∧ k ≤ min n 16 ∧ min n 16 - k ≤ gg ∧ Hid (Below w.heap.size w wr))
    case atStart => exact ⟨0, rfl, by rw [← HU0.out]; try rfl, Nat.zero_le _, by omega, Lib.hid (Below.refl _ _)⟩
    case round =>
      clear HU0
      obtain ⟨k, rfl, rfl, hk, hgg, HB⟩ := hrel
      have hLl := upto_any_len 0 ps k (by omega)
      by_cases hlt : k < min n 16
      · have hkn : k < n := min16_lt hlt
        have hki : (k : Int) < (n : Int) := by omega
        have hk16 : (k : Int) < 16 := by omega
        obtain ⟨b, off, rfl, hb, hc⟩ := (HX.out.below HB.out).cell hkn
        have HSU := Lib.hid (es.upto_succ 0 ps k)
        have HZ : Hid (es.piece ps k = (if k = 0 then [] else [59]) ++ es.numT (ps.getD k 0)) := Lib.hid rfl
        generalize ps.getD k 0 = z at *
        generalize hLg : es.upto 0 ps (k + 1) = L1 at *
        have HLG := Lib.hid hLg
        clear hLg
        generalize es.upto 0 ps k = L at *
        generalize es.piece ps k = PC at *
        have kb1 : ¬ 9223372036854775807 < L.length + 1 := by omega
        have kb2 : L.length < 9223372036854775807 := by omega
        by_cases hk0 : k = 0
        · subst hk0
          rw [Nat.add_zero] at hc
          have HZ2 : Hid (L1 = L ++ es.numT z) := Lib.hid (by rw [HSU.out, HZ.out]; simp)
          clear HSU HZ
          by_cases hzn : 0 ≤ z
          · have hu : (min z 9999).toNat ≤ 9999 := by omega
            have hn := es.numT_eq z hzn
            have hdl := dec_len _ hu
            have HBT := Lib.hid (fun W => between_any z hzn W)
            have HDC := Lib.hid (fun W => decimal_any (min z 9999).toNat hu W)
            generalize (min z 9999).toNat = u at *
            rw [hn] at HZ2
            clear hn
            generalize Lib.decDigits u = D at *
            have hcat : ByteArray.mk L.toArray ++ ByteArray.mk D.toArray = ByteArray.mk L1.toArray := by rw [HZ2.out]; exact ByteArray.mk_append_mk L D
            have kb3 : ¬ 9223372036854775807 < L.length + D.length := by omega
            have kb4 : L.length + D.length ≤ 9223372036854775807 := by omega
            go_wp2_with fail
            refine (HBT.out _).mono ?_
            rintro e w2 ⟨rfl, rfl⟩
            go_wp2_with fail
            refine (HDC.out _).mono ?_
            rintro e w3 ⟨rfl, hb3⟩
            have HB3 := Lib.hid (HB.out.trans (hb3.mono HB.out.size))
            clear hb3 HBT HDC
            go_wp2_with fail
            go_roundg (min n 16 - (0 + 1))
            case measure => omega
            case rel => exact ⟨0 + 1, by go_num, by rw [HLG.out], by omega, Nat.le_refl _, HB3⟩
          · have hzl : z < 0 := by omega
            have HE : Hid (L1 = L) := Lib.hid (by rw [HZ2.out]; unfold es.numT; rw [if_neg hzn]; simp)
            go_wp2_with fail
            go_roundg (min n 16 - (0 + 1))
            case measure => omega
            case rel => exact ⟨0 + 1, by go_num, by rw [HLG.out, HE.out], by omega, Nat.le_refl _, HB⟩
        · have hkp : (0 : Int) < (k : Int) := by omega
          obtain ⟨L2, hL2⟩ : ∃ L2, L2 = L ++ [59] := ⟨_, rfl⟩
          have hl2 : L2.length = L.length + 1 := by rw [hL2]; simp
          have hcat0 : ByteArray.mk L.toArray ++ ByteArray.mk #[59] = ByteArray.mk L2.toArray := by rw [hL2]; exact ByteArray.mk_append_mk L [59]
          have HZ2 : Hid (L1 = L2 ++ es.numT z) := Lib.hid (by rw [HSU.out, HZ.out, if_neg hk0, hL2]; simp)
          clear HSU HZ hL2
          by_cases hzn : 0 ≤ z
          · have hu : (min z 9999).toNat ≤ 9999 := by omega
            have hn := es.numT_eq z hzn
            have hdl := dec_len _ hu
            have HBT := Lib.hid (fun W => between_any z hzn W)
            have HDC := Lib.hid (fun W => decimal_any (min z 9999).toNat hu W)
            generalize (min z 9999).toNat = u at *
            rw [hn] at HZ2
            clear hn
            generalize Lib.decDigits u = D at *
            have hcat : ByteArray.mk L2.toArray ++ ByteArray.mk D.toArray = ByteArray.mk L1.toArray := by rw [HZ2.out]; exact ByteArray.mk_append_mk L2 D
            have kb3 : ¬ 9223372036854775807 < L2.length + D.length := by omega
            have kb4 : L2.length + D.length ≤ 9223372036854775807 := by omega
            go_wp2_with fail
            refine (HBT.out _).mono ?_
            rintro e w2 ⟨rfl, rfl⟩
            go_wp2_with fail
            refine (HDC.out _).mono ?_
            rintro e w3 ⟨rfl, hb3⟩
            have HB3 := Lib.hid (HB.out.trans (hb3.mono HB.out.size))
            clear hb3 HBT HDC
            go_wp2_with fail
            go_roundg (min n 16 - (k + 1))
            case measure => omega
            case rel => exact ⟨k + 1, by go_num, by rw [HLG.out], by omega, Nat.le_refl _, HB3⟩
          · have hzl : z < 0 := by omega
            have HE : Hid (L1 = L2) := Lib.hid (by rw [HZ2.out]; unfold es.numT; rw [if_neg hzn]; simp)
            go_wp2_with fail
            go_roundg (min n 16 - (k + 1))
            case measure => omega
            case rel => exact ⟨k + 1, by go_num, by rw [HLG.out, HE.out], by omega, Nat.le_refl _, HB⟩
      · obtain rfl : k = min n 16 := by omega
        have HCB : Hid (es.csiB 0 ps final = es.upto 0 ps (min n 16) ++ [final]) := Lib.hid (by unfold es.csiB es.upto; rw [hlen])
        generalize es.upto 0 ps (min n 16) = L at *
        obtain ⟨m, hm⟩ : ∃ m, m = min n 16 := ⟨_, rfl⟩
        rw [← hm]
        by_cases h16 : n ≤ 16
        · have hmi : ¬ (m : Int) < (n : Int) := by omega
          obtain ⟨W2, G, hcv, hrow, hb2, hG1, hG2⟩ := conv_text wr L (by omega)
          obtain ⟨ro, rc, w', hr, hbt, hb'⟩ := run_append_conv W2 wr.heap.size G L final hrow hG1 hG2 (by omega)
          have HBT := Lib.hid hbt
          have HBB := Lib.hid ((HB.out.trans (hb2.mono HB.out.size)).trans (hb'.mono HB.out.size))
          have hGm : G ≤ 9223372036854775807 := hG2
          clear hrow hb2 hbt hb' hk hgg hlt
          go_wp2_with (at_builtin; refine Lib.wpList_append_run _ rfl _ _ _ _ rfl _ _ rfl rfl _ _ hr ?_)
          go_ret
          have hl : (es.csiB 0 ps final).length = L.length + 1 := by rw [HCB.out]; simp
          rw [hl, HCB.out]
          exact ⟨ro, rc, rfl, HBT.out, HBB.out⟩
        · have hmi : (m : Int) < (n : Int) := by omega
          have hmi2 : ¬ (m : Int) < 16 := by omega
          obtain ⟨W2, G, hcv, hrow, hb2, hG1, hG2⟩ := conv_text wr L (by omega)
          obtain ⟨ro, rc, w', hr, hbt, hb'⟩ := run_append_conv W2 wr.heap.size G L final hrow hG1 hG2 (by omega)
          have HBT := Lib.hid hbt
          have HBB := Lib.hid ((HB.out.trans (hb2.mono HB.out.size)).trans (hb'.mono HB.out.size))
          have hGm : G ≤ 9223372036854775807 := hG2
          clear hrow hb2 hbt hb' hk hgg hlt
          go_wp2_with (at_builtin; refine Lib.wpList_append_run _ rfl _ _ _ _ rfl _ _ rfl rfl _ _ hr ?_)
          go_ret
          have hl : (es.csiB 0 ps final).length = L.length + 1 := by rw [HCB.out]; simp
          rw [hl, HCB.out]
          exact ⟨ro, rc, rfl, HBT.out, HBB.out⟩
  · have b1 : ((priv : Int) == 0) = false := by simpa using hp0
    have b2 : ((priv : Int) != 0) = true := by simpa using hp0
    have hpb : (UInt8.ofNat priv).toNat = priv := by rw [UInt8.toNat_ofNat']; omega
    have kc := str_one0 w (UInt8.ofNat priv)
    rw [hpb] at kc
    have HU0 : Hid (ByteArray.mk #[27, 91] ++ ByteArray.mk #[UInt8.ofNat priv] = ByteArray.mk (es.upto priv ps 0).toArray) := Lib.hid (by
      rw [show es.upto priv ps 0 = [27, 91] ++ [UInt8.ofNat priv] by simp [es.upto, es.privB, es.nums, hp0]]
      exact ByteArray.mk_append_mk [27, 91] [UInt8.ofNat priv])
    clear hpb
    go_enter Tryd.func25, Tryd.ntmps25
    go_wp2_with fail
    go_loopg [7, 8] (min n 16) (fun gg s7 s8 wr => ∃ (k : Nat), s8 = .int .i64 k ∧ s7 = .string ⟨(es.upto priv ps k).toArray⟩ ∧ k ≤ min n 16 ∧ min n 16 - k ≤ gg ∧ Hid (Below w.heap.size w wr))
    case atStart => exact ⟨0, rfl, by rw [← HU0.out]; try rfl, Nat.zero_le _, by omega, Lib.hid (below_one _ _)⟩
    case round =>
      clear HU0
      obtain ⟨k, rfl, rfl, hk, hgg, HB⟩ := hrel
      have hLl := upto_any_len priv ps k (by omega)
      by_cases hlt : k < min n 16
      · have hkn : k < n := min16_lt hlt
        have hki : (k : Int) < (n : Int) := by omega
        have hk16 : (k : Int) < 16 := by omega
        obtain ⟨b, off, rfl, hb, hc⟩ := (HX.out.below HB.out).cell hkn
        have HSU := Lib.hid (es.upto_succ priv ps k)
        have HZ : Hid (es.piece ps k = (if k = 0 then [] else [59]) ++ es.numT (ps.getD k 0)) := Lib.hid rfl
        generalize ps.getD k 0 = z at *
        generalize hLg : es.upto priv ps (k + 1) = L1 at *
        have HLG := Lib.hid hLg
        clear hLg
        generalize es.upto priv ps k = L at *
        generalize es.piece ps k = PC at *
        have kb1 : ¬ 9223372036854775807 < L.length + 1 := by omega
        have kb2 : L.length < 9223372036854775807 := by omega
        by_cases hk0 : k = 0
        · subst hk0
          rw [Nat.add_zero] at hc
          have HZ2 : Hid (L1 = L ++ es.numT z) := Lib.hid (by rw [HSU.out, HZ.out]; simp)
          clear HSU HZ
          by_cases hzn : 0 ≤ z
          · have hu : (min z 9999).toNat ≤ 9999 := by omega
            have hn := es.numT_eq z hzn
            have hdl := dec_len _ hu
            have HBT := Lib.hid (fun W => between_any z hzn W)
            have HDC := Lib.hid (fun W => decimal_any (min z 9999).toNat hu W)
            generalize (min z 9999).toNat = u at *
            rw [hn] at HZ2
            clear hn
            generalize Lib.decDigits u = D at *
            have hcat : ByteArray.mk L.toArray ++ ByteArray.mk D.toArray = ByteArray.mk L1.toArray := by rw [HZ2.out]; exact ByteArray.mk_append_mk L D
            have kb3 : ¬ 9223372036854775807 < L.length + D.length := by omega
            have kb4 : L.length + D.length ≤ 9223372036854775807 := by omega
            go_wp2_with fail
            refine (HBT.out _).mono ?_
            rintro e w2 ⟨rfl, rfl⟩
            go_wp2_with fail
            refine (HDC.out _).mono ?_
            rintro e w3 ⟨rfl, hb3⟩
            have HB3 := Lib.hid (HB.out.trans (hb3.mono HB.out.size))
            clear hb3 HBT HDC
            go_wp2_with fail
            go_roundg (min n 16 - (0 + 1))
            case measure => omega
            case rel => exact ⟨0 + 1, by go_num, by rw [HLG.out], by omega, Nat.le_refl _, HB3⟩
          · have hzl : z < 0 := by omega
            have HE : Hid (L1 = L) := Lib.hid (by rw [HZ2.out]; unfold es.numT; rw [if_neg hzn]; simp)
            go_wp2_with fail
            go_roundg (min n 16 - (0 + 1))
            case measure => omega
            case rel => exact ⟨0 + 1, by go_num, by rw [HLG.out, HE.out], by omega, Nat.le_refl _, HB⟩
        · have hkp : (0 : Int) < (k : Int) := by omega
          obtain ⟨L2, hL2⟩ : ∃ L2, L2 = L ++ [59] := ⟨_, rfl⟩
          have hl2 : L2.length = L.length + 1 := by rw [hL2]; simp
          have hcat0 : ByteArray.mk L.toArray ++ ByteArray.mk #[59] = ByteArray.mk L2.toArray := by rw [hL2]; exact ByteArray.mk_append_mk L [59]
          have HZ2 : Hid (L1 = L2 ++ es.numT z) := Lib.hid (by rw [HSU.out, HZ.out, if_neg hk0, hL2]; simp)
          clear HSU HZ hL2
          by_cases hzn : 0 ≤ z
          · have hu : (min z 9999).toNat ≤ 9999 := by omega
            have hn := es.numT_eq z hzn
            have hdl := dec_len _ hu
            have HBT := Lib.hid (fun W => between_any z hzn W)
            have HDC := Lib.hid (fun W => decimal_any (min z 9999).toNat hu W)
            generalize (min z 9999).toNat = u at *
            rw [hn] at HZ2
            clear hn
            generalize Lib.decDigits u = D at *
            have hcat : ByteArray.mk L2.toArray ++ ByteArray.mk D.toArray = ByteArray.mk L1.toArray := by rw [HZ2.out]; exact ByteArray.mk_append_mk L2 D
            have kb3 : ¬ 9223372036854775807 < L2.length + D.length := by omega
            have kb4 : L2.length + D.length ≤ 9223372036854775807 := by omega
            go_wp2_with fail
            refine (HBT.out _).mono ?_
            rintro e w2 ⟨rfl, rfl⟩
            go_wp2_with fail
            refine (HDC.out _).mono ?_
            rintro e w3 ⟨rfl, hb3⟩
            have HB3 := Lib.hid (HB.out.trans (hb3.mono HB.out.size))
            clear hb3 HBT HDC
            go_wp2_with fail
            go_roundg (min n 16 - (k + 1))
            case measure => omega
            case rel => exact ⟨k + 1, by go_num, by rw [HLG.out], by omega, Nat.le_refl _, HB3⟩
          · have hzl : z < 0 := by omega
            have HE : Hid (L1 = L2) := Lib.hid (by rw [HZ2.out]; unfold es.numT; rw [if_neg hzn]; simp)
            go_wp2_with fail
            go_roundg (min n 16 - (k + 1))
            case measure => omega
            case rel => exact ⟨k + 1, by go_num, by rw [HLG.out, HE.out], by omega, Nat.le_refl _, HB⟩
      · obtain rfl : k = min n 16 := by omega
        have HCB : Hid (es.csiB priv ps final = es.upto priv ps (min n 16) ++ [final]) := Lib.hid (by unfold es.csiB es.upto; rw [hlen])
        generalize es.upto priv ps (min n 16) = L at *
        obtain ⟨m, hm⟩ : ∃ m, m = min n 16 := ⟨_, rfl⟩
        rw [← hm]
        by_cases h16 : n ≤ 16
        · have hmi : ¬ (m : Int) < (n : Int) := by omega
          obtain ⟨W2, G, hcv, hrow, hb2, hG1, hG2⟩ := conv_text wr L (by omega)
          obtain ⟨ro, rc, w', hr, hbt, hb'⟩ := run_append_conv W2 wr.heap.size G L final hrow hG1 hG2 (by omega)
          have HBT := Lib.hid hbt
          have HBB := Lib.hid ((HB.out.trans (hb2.mono HB.out.size)).trans (hb'.mono HB.out.size))
          have hGm : G ≤ 9223372036854775807 := hG2
          clear hrow hb2 hbt hb' hk hgg hlt
          go_wp2_with (at_builtin; refine Lib.wpList_append_run _ rfl _ _ _ _ rfl _ _ rfl rfl _ _ hr ?_)
          go_ret
          have hl : (es.csiB priv ps final).length = L.length + 1 := by rw [HCB.out]; simp
          rw [hl, HCB.out]
          exact ⟨ro, rc, rfl, HBT.out, HBB.out⟩
        · have hmi : (m : Int) < (n : Int) := by omega
          have hmi2 : ¬ (m : Int) < 16 := by omega
          obtain ⟨W2, G, hcv, hrow, hb2, hG1, hG2⟩ := conv_text wr L (by omega)
          obtain ⟨ro, rc, w', hr, hbt, hb'⟩ := run_append_conv W2 wr.heap.size G L final hrow hG1 hG2 (by omega)
          have HBT := Lib.hid hbt
          have HBB := Lib.hid ((HB.out.trans (hb2.mono HB.out.size)).trans (hb'.mono HB.out.size))
          have hGm : G ≤ 9223372036854775807 := hG2
          clear hrow hb2 hbt hb' hk hgg hlt
          go_wp2_with (at_builtin; refine Lib.wpList_append_run _ rfl _ _ _ _ rfl _ _ rfl rfl _ _ hr ?_)
          go_ret
          have hl : (es.csiB priv ps final).length = L.length + 1 := by rw [HCB.out]; simp
          rw [hl, HCB.out]
          exact ⟨ro, rc, rfl, HBT.out, HBB.out⟩
end Go.Proofs.YtgkodjkhhmcnnaaDoor
