/- Kinds, New. -/
import Derived.Test.YtgegphciaejkiaaBuPub
namespace Go.Proofs.Ytgegphciaejkiaa
open Go.RowKit
theorem bu.kindsU_step (k : Nat → Bool) (n : Nat) : bu.kindsU k (n + 1) = if k n = true then bu.kindsU k n ++ [(n : Int) + 1] else bu.kindsU k n := rfl
set_option maxRecDepth 100000 in
set_option maxHeartbeats 3200000 in
theorem kindsP_any (q : Nat) (S : Nat → bu.Slot) (V : Nat → Value) (p : Int) (w : World) (h : BuAt w q S V) : Calls Try.prog 15 #[.pointer (some ⟨q, 0, none⟩), .int .i64 p] w fun e w' => IntsAns w w' e (bu.kindsA S p) := by
  have HO := Lib.hid (opened_any q S V p w h)
  have HL : Hid (bu.kindsA S p = match bu.openA S p with | none => [] | some i => bu.kindsU (S i).kinds 8) := Lib.hid rfl
  have hlt := fun i (e : bu.openA S p = some i) => (bu.openA_lt e).1
  generalize bu.kindsA S p = R at *
  obtain ⟨X, hX⟩ : ∃ X, bu.openA S p = X := ⟨_, rfl⟩
  rw [hX] at HO HL hlt
  clear hX
  cases X with
  | none =>
    have HR : Hid (R = []) := Lib.hid HL.out
    clear HL hlt h
    go_enter Try.func15, Try.ntmps15
    go_wp2_with fail
    refine HO.out.mono ?_
    rintro e w' ⟨rfl, hw⟩
    replace hw := hw.symm
    subst hw
    dsimp only [slP, Option.map_none]
    go_wp2_with fail
    go_ret
    rw [HR.out]
    exact ⟨_, rfl, ⟨rfl, .inl ⟨rfl, rfl⟩⟩, Below.refl _ _⟩
  | some i =>
    have hi := hlt i rfl
    have HR : Hid (R = bu.kindsU (S i).kinds 8) := Lib.hid HL.out
    obtain ⟨c0, c1, c9, c10⟩ := h.cells hi
    have k0 := c1 0 (by omega)
    have k1 := c1 1 (by omega)
    have k2 := c1 2 (by omega)
    have k3 := c1 3 (by omega)
    have k4 := c1 4 (by omega)
    have k5 := c1 5 (by omega)
    have k6 := c1 6 (by omega)
    have k7 := c1 7 (by omega)
    simp only [Nat.add_assoc, Nat.reduceAdd] at k0 k1 k2 k3 k4 k5 k6 k7
    have hq := h.lt
    have HST := Lib.hid (bu.kindsU_step (S i).kinds)
    have HLE := Lib.hid (bu.kindsU_len (S i).kinds)
    clear HL hlt h c1 c0 c9 c10
    generalize (S i).kinds = K at *
    go_enter Try.func15, Try.ntmps15
    go_wp2_with fail
    refine HO.out.mono ?_
    rintro e w' ⟨rfl, hw⟩
    replace hw := hw.symm
    subst hw
    dsimp only [slP, Option.map_some]
    go_upto_region 6 with fail
    clear k0 k1 k2 k3 k4 k5 k6 k7 hq HO
    go_loopg [6, 18] 8 (fun gg s6 s18 wr => ∃ (j : Nat) (ao : Option Addr) (ac : Nat), s18 = .int .i64 j ∧ s6 = .slice ao (bu.kindsU K j).length ac ∧ j ≤ 8 ∧ 8 - j ≤ gg ∧ Hid (NR w.heap.size w wr (.slice ao (bu.kindsU K j).length ac) (bu.kindsU K j)))
    case atStart => exact ⟨0, none, 0, rfl, rfl, Nat.zero_le _, Nat.le_refl _, Lib.hid ⟨⟨rfl, .inl ⟨rfl, rfl⟩⟩, Below.refl _ _⟩⟩
    case round =>
      obtain ⟨j, ao, ac, rfl, rfl, hj, hgg, HA⟩ := hrel
      have hs : j = 0 ∨ j = 1 ∨ j = 2 ∨ j = 3 ∨ j = 4 ∨ j = 5 ∨ j = 6 ∨ j = 7 ∨ j = 8 := by omega
      clear hj
      rcases hs with rfl | rfl | rfl | rfl | rfl | rfl | rfl | rfl | rfl
      · have hst : bu.kindsU K 1 = if K 0 = true then bu.kindsU K 0 ++ [(1 : Int)] else bu.kindsU K 0 := HST.out 0
        have HS := Lib.hid hst
        have hle := HLE.out 0
        have hkb := run_kb0 (K 0) (K 1) (K 2) (K 3) (K 4) (K 5) (K 6) (K 7) wr
        clear hst
        obtain ⟨L, hL⟩ : ∃ L, bu.kindsU K 0 = L := ⟨_, rfl⟩
        rw [hL] at HS HA hle ⊢
        obtain ⟨LL, hLL⟩ : ∃ LL, bu.kindsU K 1 = LL := ⟨_, rfl⟩
        have HLL := Lib.hid hLL
        rw [hLL] at HS
        clear hL hLL
        obtain hb | hb : K 0 = true ∨ K 0 = false := by cases K 0 <;> simp
        · skip
          have HS1 : Hid (L ++ [(1 : Int)] = LL) := Lib.hid (by rw [HS.out, if_pos hb])
          replace hkb := hkb.trans (by rw [hb])
          clear HS hb
          go_wp2_with (at_builtin; go_loud (refine wpList_num wr (1 : Int) rfl _ _ rfl w.heap.size (.slice ao L.length ac) L LL HS1.out rfl HA.out.own wr.heap.size rfl rfl (by omega) HA.out.bel.size ?_))
          intro V' w5 r1 r2
          have H5 : Hid (NR w.heap.size w w5 V' LL) := Lib.hid (HA.out.push HA.out.bel.size r1 r2)
          obtain ⟨ao', ac', rfl⟩ := own_slice r1
          clear r1 r2
          go_wp2_with fail
          go_roundg (8 - 1)
          case measure => omega
          case rel => exact ⟨1, ao', ac', rfl, by rw [HLL.out], by decide, Nat.le_refl _, Lib.hid (by rw [HLL.out]; exact H5.out)⟩
        · skip
          have HS1 : Hid (LL = L) := Lib.hid (by rw [HS.out, if_neg (by rw [hb]; decide)])
          replace hkb := hkb.trans (by rw [hb])
          clear HS hb
          go_wp2_with fail
          go_roundg (8 - 1)
          case measure => omega
          case rel => exact ⟨1, ao, ac, rfl, by rw [HLL.out, HS1.out], by decide, Nat.le_refl _, Lib.hid (by rw [HLL.out, HS1.out]; exact HA.out)⟩
      · have hst : bu.kindsU K 2 = if K 1 = true then bu.kindsU K 1 ++ [(2 : Int)] else bu.kindsU K 1 := HST.out 1
        have HS := Lib.hid hst
        have hle := HLE.out 1
        have hkb := run_kb1 (K 0) (K 1) (K 2) (K 3) (K 4) (K 5) (K 6) (K 7) wr
        clear hst
        obtain ⟨L, hL⟩ : ∃ L, bu.kindsU K 1 = L := ⟨_, rfl⟩
        rw [hL] at HS HA hle ⊢
        obtain ⟨LL, hLL⟩ : ∃ LL, bu.kindsU K 2 = LL := ⟨_, rfl⟩
        have HLL := Lib.hid hLL
        rw [hLL] at HS
        clear hL hLL
        obtain hb | hb : K 1 = true ∨ K 1 = false := by cases K 1 <;> simp
        · skip
          have HS1 : Hid (L ++ [(2 : Int)] = LL) := Lib.hid (by rw [HS.out, if_pos hb])
          replace hkb := hkb.trans (by rw [hb])
          clear HS hb
          go_wp2_with (at_builtin; go_loud (refine wpList_num wr (2 : Int) rfl _ _ rfl w.heap.size (.slice ao L.length ac) L LL HS1.out rfl HA.out.own wr.heap.size rfl rfl (by omega) HA.out.bel.size ?_))
          intro V' w5 r1 r2
          have H5 : Hid (NR w.heap.size w w5 V' LL) := Lib.hid (HA.out.push HA.out.bel.size r1 r2)
          obtain ⟨ao', ac', rfl⟩ := own_slice r1
          clear r1 r2
          go_wp2_with fail
          go_roundg (8 - 2)
          case measure => omega
          case rel => exact ⟨2, ao', ac', rfl, by rw [HLL.out], by decide, Nat.le_refl _, Lib.hid (by rw [HLL.out]; exact H5.out)⟩
        · skip
          have HS1 : Hid (LL = L) := Lib.hid (by rw [HS.out, if_neg (by rw [hb]; decide)])
          replace hkb := hkb.trans (by rw [hb])
          clear HS hb
          go_wp2_with fail
          go_roundg (8 - 2)
          case measure => omega
          case rel => exact ⟨2, ao, ac, rfl, by rw [HLL.out, HS1.out], by decide, Nat.le_refl _, Lib.hid (by rw [HLL.out, HS1.out]; exact HA.out)⟩
      · have hst : bu.kindsU K 3 = if K 2 = true then bu.kindsU K 2 ++ [(3 : Int)] else bu.kindsU K 2 := HST.out 2
        have HS := Lib.hid hst
        have hle := HLE.out 2
        have hkb := run_kb2 (K 0) (K 1) (K 2) (K 3) (K 4) (K 5) (K 6) (K 7) wr
        clear hst
        obtain ⟨L, hL⟩ : ∃ L, bu.kindsU K 2 = L := ⟨_, rfl⟩
        rw [hL] at HS HA hle ⊢
        obtain ⟨LL, hLL⟩ : ∃ LL, bu.kindsU K 3 = LL := ⟨_, rfl⟩
        have HLL := Lib.hid hLL
        rw [hLL] at HS
        clear hL hLL
        obtain hb | hb : K 2 = true ∨ K 2 = false := by cases K 2 <;> simp
        · skip
          have HS1 : Hid (L ++ [(3 : Int)] = LL) := Lib.hid (by rw [HS.out, if_pos hb])
          replace hkb := hkb.trans (by rw [hb])
          clear HS hb
          go_wp2_with (at_builtin; go_loud (refine wpList_num wr (3 : Int) rfl _ _ rfl w.heap.size (.slice ao L.length ac) L LL HS1.out rfl HA.out.own wr.heap.size rfl rfl (by omega) HA.out.bel.size ?_))
          intro V' w5 r1 r2
          have H5 : Hid (NR w.heap.size w w5 V' LL) := Lib.hid (HA.out.push HA.out.bel.size r1 r2)
          obtain ⟨ao', ac', rfl⟩ := own_slice r1
          clear r1 r2
          go_wp2_with fail
          go_roundg (8 - 3)
          case measure => omega
          case rel => exact ⟨3, ao', ac', rfl, by rw [HLL.out], by decide, Nat.le_refl _, Lib.hid (by rw [HLL.out]; exact H5.out)⟩
        · skip
          have HS1 : Hid (LL = L) := Lib.hid (by rw [HS.out, if_neg (by rw [hb]; decide)])
          replace hkb := hkb.trans (by rw [hb])
          clear HS hb
          go_wp2_with fail
          go_roundg (8 - 3)
          case measure => omega
          case rel => exact ⟨3, ao, ac, rfl, by rw [HLL.out, HS1.out], by decide, Nat.le_refl _, Lib.hid (by rw [HLL.out, HS1.out]; exact HA.out)⟩
      · have hst : bu.kindsU K 4 = if K 3 = true then bu.kindsU K 3 ++ [(4 : Int)] else bu.kindsU K 3 := HST.out 3
        have HS := Lib.hid hst
        have hle := HLE.out 3
        have hkb := run_kb3 (K 0) (K 1) (K 2) (K 3) (K 4) (K 5) (K 6) (K 7) wr
        clear hst
        obtain ⟨L, hL⟩ : ∃ L, bu.kindsU K 3 = L := ⟨_, rfl⟩
        rw [hL] at HS HA hle ⊢
        obtain ⟨LL, hLL⟩ : ∃ LL, bu.kindsU K 4 = LL := ⟨_, rfl⟩
        have HLL := Lib.hid hLL
        rw [hLL] at HS
        clear hL hLL
        obtain hb | hb : K 3 = true ∨ K 3 = false := by cases K 3 <;> simp
        · skip
          have HS1 : Hid (L ++ [(4 : Int)] = LL) := Lib.hid (by rw [HS.out, if_pos hb])
          replace hkb := hkb.trans (by rw [hb])
          clear HS hb
          go_wp2_with (at_builtin; go_loud (refine wpList_num wr (4 : Int) rfl _ _ rfl w.heap.size (.slice ao L.length ac) L LL HS1.out rfl HA.out.own wr.heap.size rfl rfl (by omega) HA.out.bel.size ?_))
          intro V' w5 r1 r2
          have H5 : Hid (NR w.heap.size w w5 V' LL) := Lib.hid (HA.out.push HA.out.bel.size r1 r2)
          obtain ⟨ao', ac', rfl⟩ := own_slice r1
          clear r1 r2
          go_wp2_with fail
          go_roundg (8 - 4)
          case measure => omega
          case rel => exact ⟨4, ao', ac', rfl, by rw [HLL.out], by decide, Nat.le_refl _, Lib.hid (by rw [HLL.out]; exact H5.out)⟩
        · skip
          have HS1 : Hid (LL = L) := Lib.hid (by rw [HS.out, if_neg (by rw [hb]; decide)])
          replace hkb := hkb.trans (by rw [hb])
          clear HS hb
          go_wp2_with fail
          go_roundg (8 - 4)
          case measure => omega
          case rel => exact ⟨4, ao, ac, rfl, by rw [HLL.out, HS1.out], by decide, Nat.le_refl _, Lib.hid (by rw [HLL.out, HS1.out]; exact HA.out)⟩
      · have hst : bu.kindsU K 5 = if K 4 = true then bu.kindsU K 4 ++ [(5 : Int)] else bu.kindsU K 4 := HST.out 4
        have HS := Lib.hid hst
        have hle := HLE.out 4
        have hkb := run_kb4 (K 0) (K 1) (K 2) (K 3) (K 4) (K 5) (K 6) (K 7) wr
        clear hst
        obtain ⟨L, hL⟩ : ∃ L, bu.kindsU K 4 = L := ⟨_, rfl⟩
        rw [hL] at HS HA hle ⊢
        obtain ⟨LL, hLL⟩ : ∃ LL, bu.kindsU K 5 = LL := ⟨_, rfl⟩
        have HLL := Lib.hid hLL
        rw [hLL] at HS
        clear hL hLL
        obtain hb | hb : K 4 = true ∨ K 4 = false := by cases K 4 <;> simp
        · skip
          have HS1 : Hid (L ++ [(5 : Int)] = LL) := Lib.hid (by rw [HS.out, if_pos hb])
          replace hkb := hkb.trans (by rw [hb])
          clear HS hb
          go_wp2_with (at_builtin; go_loud (refine wpList_num wr (5 : Int) rfl _ _ rfl w.heap.size (.slice ao L.length ac) L LL HS1.out rfl HA.out.own wr.heap.size rfl rfl (by omega) HA.out.bel.size ?_))
          intro V' w5 r1 r2
          have H5 : Hid (NR w.heap.size w w5 V' LL) := Lib.hid (HA.out.push HA.out.bel.size r1 r2)
          obtain ⟨ao', ac', rfl⟩ := own_slice r1
          clear r1 r2
          go_wp2_with fail
          go_roundg (8 - 5)
          case measure => omega
          case rel => exact ⟨5, ao', ac', rfl, by rw [HLL.out], by decide, Nat.le_refl _, Lib.hid (by rw [HLL.out]; exact H5.out)⟩
        · skip
          have HS1 : Hid (LL = L) := Lib.hid (by rw [HS.out, if_neg (by rw [hb]; decide)])
          replace hkb := hkb.trans (by rw [hb])
          clear HS hb
          go_wp2_with fail
          go_roundg (8 - 5)
          case measure => omega
          case rel => exact ⟨5, ao, ac, rfl, by rw [HLL.out, HS1.out], by decide, Nat.le_refl _, Lib.hid (by rw [HLL.out, HS1.out]; exact HA.out)⟩
      · have hst : bu.kindsU K 6 = if K 5 = true then bu.kindsU K 5 ++ [(6 : Int)] else bu.kindsU K 5 := HST.out 5
        have HS := Lib.hid hst
        have hle := HLE.out 5
        have hkb := run_kb5 (K 0) (K 1) (K 2) (K 3) (K 4) (K 5) (K 6) (K 7) wr
        clear hst
        obtain ⟨L, hL⟩ : ∃ L, bu.kindsU K 5 = L := ⟨_, rfl⟩
        rw [hL] at HS HA hle ⊢
        obtain ⟨LL, hLL⟩ : ∃ LL, bu.kindsU K 6 = LL := ⟨_, rfl⟩
        have HLL := Lib.hid hLL
        rw [hLL] at HS
        clear hL hLL
        obtain hb | hb : K 5 = true ∨ K 5 = false := by cases K 5 <;> simp
        · skip
          have HS1 : Hid (L ++ [(6 : Int)] = LL) := Lib.hid (by rw [HS.out, if_pos hb])
          replace hkb := hkb.trans (by rw [hb])
          clear HS hb
          go_wp2_with (at_builtin; go_loud (refine wpList_num wr (6 : Int) rfl _ _ rfl w.heap.size (.slice ao L.length ac) L LL HS1.out rfl HA.out.own wr.heap.size rfl rfl (by omega) HA.out.bel.size ?_))
          intro V' w5 r1 r2
          have H5 : Hid (NR w.heap.size w w5 V' LL) := Lib.hid (HA.out.push HA.out.bel.size r1 r2)
          obtain ⟨ao', ac', rfl⟩ := own_slice r1
          clear r1 r2
          go_wp2_with fail
          go_roundg (8 - 6)
          case measure => omega
          case rel => exact ⟨6, ao', ac', rfl, by rw [HLL.out], by decide, Nat.le_refl _, Lib.hid (by rw [HLL.out]; exact H5.out)⟩
        · skip
          have HS1 : Hid (LL = L) := Lib.hid (by rw [HS.out, if_neg (by rw [hb]; decide)])
          replace hkb := hkb.trans (by rw [hb])
          clear HS hb
          go_wp2_with fail
          go_roundg (8 - 6)
          case measure => omega
          case rel => exact ⟨6, ao, ac, rfl, by rw [HLL.out, HS1.out], by decide, Nat.le_refl _, Lib.hid (by rw [HLL.out, HS1.out]; exact HA.out)⟩
      · have hst : bu.kindsU K 7 = if K 6 = true then bu.kindsU K 6 ++ [(7 : Int)] else bu.kindsU K 6 := HST.out 6
        have HS := Lib.hid hst
        have hle := HLE.out 6
        have hkb := run_kb6 (K 0) (K 1) (K 2) (K 3) (K 4) (K 5) (K 6) (K 7) wr
        clear hst
        obtain ⟨L, hL⟩ : ∃ L, bu.kindsU K 6 = L := ⟨_, rfl⟩
        rw [hL] at HS HA hle ⊢
        obtain ⟨LL, hLL⟩ : ∃ LL, bu.kindsU K 7 = LL := ⟨_, rfl⟩
        have HLL := Lib.hid hLL
        rw [hLL] at HS
        clear hL hLL
        obtain hb | hb : K 6 = true ∨ K 6 = false := by cases K 6 <;> simp
        · skip
          have HS1 : Hid (L ++ [(7 : Int)] = LL) := Lib.hid (by rw [HS.out, if_pos hb])
          replace hkb := hkb.trans (by rw [hb])
          clear HS hb
          go_wp2_with (at_builtin; go_loud (refine wpList_num wr (7 : Int) rfl _ _ rfl w.heap.size (.slice ao L.length ac) L LL HS1.out rfl HA.out.own wr.heap.size rfl rfl (by omega) HA.out.bel.size ?_))
          intro V' w5 r1 r2
          have H5 : Hid (NR w.heap.size w w5 V' LL) := Lib.hid (HA.out.push HA.out.bel.size r1 r2)
          obtain ⟨ao', ac', rfl⟩ := own_slice r1
          clear r1 r2
          go_wp2_with fail
          go_roundg (8 - 7)
          case measure => omega
          case rel => exact ⟨7, ao', ac', rfl, by rw [HLL.out], by decide, Nat.le_refl _, Lib.hid (by rw [HLL.out]; exact H5.out)⟩
        · skip
          have HS1 : Hid (LL = L) := Lib.hid (by rw [HS.out, if_neg (by rw [hb]; decide)])
          replace hkb := hkb.trans (by rw [hb])
          clear HS hb
          go_wp2_with fail
          go_roundg (8 - 7)
          case measure => omega
          case rel => exact ⟨7, ao, ac, rfl, by rw [HLL.out, HS1.out], by decide, Nat.le_refl _, Lib.hid (by rw [HLL.out, HS1.out]; exact HA.out)⟩
      · have hst : bu.kindsU K 8 = if K 7 = true then bu.kindsU K 7 ++ [(8 : Int)] else bu.kindsU K 7 := HST.out 7
        have HS := Lib.hid hst
        have hle := HLE.out 7
        have hkb := run_kb7 (K 0) (K 1) (K 2) (K 3) (K 4) (K 5) (K 6) (K 7) wr
        clear hst
        obtain ⟨L, hL⟩ : ∃ L, bu.kindsU K 7 = L := ⟨_, rfl⟩
        rw [hL] at HS HA hle ⊢
        obtain ⟨LL, hLL⟩ : ∃ LL, bu.kindsU K 8 = LL := ⟨_, rfl⟩
        have HLL := Lib.hid hLL
        rw [hLL] at HS
        clear hL hLL
        obtain hb | hb : K 7 = true ∨ K 7 = false := by cases K 7 <;> simp
        · skip
          have HS1 : Hid (L ++ [(8 : Int)] = LL) := Lib.hid (by rw [HS.out, if_pos hb])
          replace hkb := hkb.trans (by rw [hb])
          clear HS hb
          go_wp2_with (at_builtin; go_loud (refine wpList_num wr (8 : Int) rfl _ _ rfl w.heap.size (.slice ao L.length ac) L LL HS1.out rfl HA.out.own wr.heap.size rfl rfl (by omega) HA.out.bel.size ?_))
          intro V' w5 r1 r2
          have H5 : Hid (NR w.heap.size w w5 V' LL) := Lib.hid (HA.out.push HA.out.bel.size r1 r2)
          obtain ⟨ao', ac', rfl⟩ := own_slice r1
          clear r1 r2
          go_wp2_with fail
          go_roundg (8 - 8)
          case measure => omega
          case rel => exact ⟨8, ao', ac', rfl, by rw [HLL.out], by decide, Nat.le_refl _, Lib.hid (by rw [HLL.out]; exact H5.out)⟩
        · skip
          have HS1 : Hid (LL = L) := Lib.hid (by rw [HS.out, if_neg (by rw [hb]; decide)])
          replace hkb := hkb.trans (by rw [hb])
          clear HS hb
          go_wp2_with fail
          go_roundg (8 - 8)
          case measure => omega
          case rel => exact ⟨8, ao, ac, rfl, by rw [HLL.out, HS1.out], by decide, Nat.le_refl _, Lib.hid (by rw [HLL.out, HS1.out]; exact HA.out)⟩
      · go_wp2_with fail
        go_ret
        rw [HR.out]
        exact ⟨_, rfl, HA.out.own, HA.out.bel⟩
abbrev busO : Obj := .cells #[.bool false, .bool false, .bool false, .bool false, .bool false, .bool false, .bool false, .bool false, .bool false, .slice none 0 0, .int .i64 0, .bool false, .bool false, .bool false, .bool false, .bool false, .bool false, .bool false, .bool false, .bool false, .slice none 0 0, .int .i64 0, .bool false, .bool false, .bool false, .bool false, .bool false, .bool false, .bool false, .bool false, .bool false, .slice none 0 0, .int .i64 0, .bool false, .bool false, .bool false, .bool false, .bool false, .bool false, .bool false, .bool false, .bool false, .slice none 0 0, .int .i64 0] 61
theorem bus_new (w : World) : BuAt (w.alloc busO) w.heap.size (fun _ => bu.Slot.zero) (fun _ => .slice none 0 0) := by
  have hn := heap_alloc_new w busO
  refine ⟨⟨_, hn, rfl, fun i hi => ?_⟩, fun i hi => ⟨rfl, .inl ⟨rfl, rfl⟩⟩, fun i j _ _ _ g hg => by cases hg⟩
  have hs : i = 0 ∨ i = 1 ∨ i = 2 ∨ i = 3 := by omega
  rcases hs with rfl | rfl | rfl | rfl
  all_goals
    refine ⟨rfl, fun k hk => ?_, rfl, rfl⟩
    have hs : k = 0 ∨ k = 1 ∨ k = 2 ∨ k = 3 ∨ k = 4 ∨ k = 5 ∨ k = 6 ∨ k = 7 := by omega
    rcases hs with rfl | rfl | rfl | rfl | rfl | rfl | rfl | rfl <;> rfl
set_option maxRecDepth 100000 in
theorem newP_any (w : World) : Calls Try.prog 7 #[] w fun e w' => e = .returned (.pointer (some ⟨w.heap.size, 0, none⟩)) ∧ w' = w.alloc busO := by
  go_enter Try.func7, Try.ntmps7
  go_wp2_with fail
  go_ret
  exact ⟨rfl, rfl⟩
end Go.Proofs.Ytgegphciaejkiaa
