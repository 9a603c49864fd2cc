/- CheckPlays: the walk. -/
import Derived.Test.YtoknolljfeaapaaDoorCkRefC
import Derived.Test.YtoknolljfeaapaaDoorCkHs
namespace Go.Proofs.YtoknolljfeaapaaDoor
open Go.RowKit
/-- the module that came in, and its box -/
structure MP (w W : World) (p : Nat) (m : md.Mod) (VD VF : Value) : Prop where
  box : W.heap[p]? = some (modB m.mem VD VF)
  parts : ModIn W (fun k => k < w.heap.size) VD VF m
  bel : Below w.heap.size w W
theorem MP.next {w W W' : World} {p : Nat} {m : md.Mod} {VD VF : Value} (h : MP w W p m VD VF) (hb : Below W.heap.size W W') : MP w W' p m VD VF :=
  ⟨(hb.block _ (heap_lt h.box)).trans h.box, h.parts.below hb, h.bel.trans (hb.mono h.bel.size)⟩
theorem ck.heightsOf_out {m : md.Mod} {f : Int} (h : ck.below f m.funcs.length = false) : ck.heightsOf m f = [] := by
  unfold ck.heightsOf
  rw [if_neg (fun g => by rw [h] at g; exact Bool.noConfusion g.2)]
theorem ck.heightsOf_flaw {m : md.Mod} {f : Int} (h : ck.check m ≠ ck.fine) : ck.heightsOf m f = [] := by
  unfold ck.heightsOf
  rw [if_neg (fun g => h g.1)]
set_option maxRecDepth 100000 in
set_option maxHeartbeats 6400000 in
theorem plays13_any (m : md.Mod) (VD VF : Value) (w : World) (ht : HT w) (h : ModIn w (fun k => k < w.heap.size) VD VF m) (hi : md.fnsI m.funcs) :
    Calls Tryd.prog 3 #[modV m VD VF] w fun e w' => e = .returned (.bool true) ∧ Below w.heap.size w w' := by
  obtain ⟨od, cd, of, cf, rfl, rfl, hd1, hd2, hf1, hf2⟩ := h.slices
  have hb1 := below_one w (modB m.mem (.slice od m.data.length cd) (.slice of m.funcs.length cf))
  have HM1 := Lib.hid (show MP w (w.alloc (modB m.mem (.slice od m.data.length cd) (.slice of m.funcs.length cf))) w.heap.size m _ _ from ⟨heap_alloc_new w _, h.below hb1, hb1⟩)
  have HTT := Lib.hid (fun (W : World) (hb : Below w.heap.size w W) => ht.below hb)
  have HCK := Lib.hid (fun (W : World) (hb : MP w W w.heap.size m (.slice od m.data.length cd) (.slice of m.funcs.length cf)) => check_any _ m _ _ W hb.parts (HTT.out W hb.bel) (fun k hk => Nat.lt_of_lt_of_le hk hb.bel.size) hi)
  have HRC := Lib.hid (fun (W : World) (hb : MP w W w.heap.size m (.slice od m.data.length cd) (.slice of m.funcs.length cf)) => rcheck_any _ m _ _ W hb.parts (fun k hk => Nat.lt_of_lt_of_le hk hb.bel.size) hi)
  have HHS := Lib.hid (fun (f : Int) (W : World) (hb : MP w W w.heap.size m (.slice od m.data.length cd) (.slice of m.funcs.length cf)) => heightsOf_any _ m _ _ f W hb.parts (HTT.out W hb.bel) (fun k hk => Nat.lt_of_lt_of_le hk hb.bel.size) hi)
  have HRH := Lib.hid (fun (f : Nat) (W : World) (hb : MP w W w.heap.size m (.slice od m.data.length cd) (.slice of m.funcs.length cf)) (h1 : ck.Lim m) (h2 : ck.Pt m f) => rheights_any _ m _ _ f W hb.parts h1 h2)
  clear h hb1 hd1 hd2 ht hi
  go_enter Tryd.func3, Tryd.ntmps3
  go_upto_region 1 with fail
  generalize w.alloc (modB m.mem (.slice od m.data.length cd) (.slice of m.funcs.length cf)) = W1 at *
  have HAL := Lib.hid (alive13_any W1 (HTT.out W1 HM1.out.bel))
  go_wp2_with fail
  refine HAL.out.mono ?_
  rintro e w2 ⟨rfl, hb2⟩
  have HM2 := Lib.hid (HM1.out.next hb2)
  clear hb2 HAL HM1
  have z0 : w2.cell? ⟨w.heap.size, 0, none⟩ = some (.int .i64 m.mem) := (cell_of_heap HM2.out.box).trans rfl
  have z1 : w2.cell? ⟨w.heap.size, 1, none⟩ = some (.slice od m.data.length cd) := (cell_of_heap HM2.out.box).trans rfl
  have z2 : w2.cell? ⟨w.heap.size, 2, none⟩ = some (.slice of m.funcs.length cf) := (cell_of_heap HM2.out.box).trans rfl
  have hlz := heap_lt HM2.out.box
  have HC2 := Lib.hid (HCK.out w2 HM2.out)
  have hcs := ck.check_cases m
  have HFI := Lib.hid (fun (hc : ck.check m = ck.fine) => And.intro (ck.fine_pt hc) (ck.check_fine.1 hc).1)
  have HHO : Hid (ck.check m = ck.fine → ∀ j : Nat, j < m.funcs.length → ck.heightsOf m (j : Int) = (ck.heights m j).getD []) := Lib.hid (fun hc j hj => by
    unfold ck.heightsOf
    rw [if_pos ⟨hc, ck.below_iff.2 ⟨by omega, by omega⟩⟩, Int.toNat_natCast])
  have HHX : Hid (ck.check m ≠ ck.fine → ∀ j : Nat, ck.heightsOf m (j : Int) = []) := Lib.hid (fun hc j => ck.heightsOf_flaw hc)
  obtain ⟨CK, hck⟩ : ∃ CK, ck.check m = CK := ⟨_, rfl⟩
  rw [hck] at HC2 hcs HFI HHO HHX HRC
  clear hck HCK
  obtain ⟨a, b, c⟩ := CK
  have hcc : (c = 0 → (⟨a, b, c⟩ : ck.Flaw) = ck.fine) ∧ (c ≠ 0 → (⟨a, b, c⟩ : ck.Flaw) ≠ ck.fine) := by
    refine ⟨fun h0 => ?_, fun h0 e => ?_⟩
    · subst h0
      rcases hcs with h | ⟨x, y, h⟩ | ⟨x, y, h⟩
      · exact h
      · injection h with _ _ h; exact absurd h (by decide)
      · injection h with _ _ h; exact absurd h (by decide)
    · injection e with _ _ e; exact h0 e
  have HCC := Lib.hid hcc
  clear hcs hcc
  go_wp2_with fail
  refine HC2.out.mono ?_
  rintro e w3 ⟨rfl, hb3⟩
  have HM3 := Lib.hid (HM2.out.next hb3)
  clear hb3 HC2 HM2 z0 z1 z2 hlz
  dsimp only
  have hb4 := below_one w3 (.cells #[.int .i64 a, .int .i64 b, .int .i64 c] 29)
  have HX4 := Lib.hid (heap_alloc_new w3 (.cells #[.int .i64 a, .int .i64 b, .int .i64 c] 29))
  have HM4 := Lib.hid (HM3.out.next hb4)
  clear hb4
  go_upto_region 4 with fail
  generalize w3.alloc (.cells #[.int .i64 a, .int .i64 b, .int .i64 c] 29) = w4 at *
  generalize w3.heap.size = q at *
  clear HM3
  have z0 : w4.cell? ⟨w.heap.size, 0, none⟩ = some (.int .i64 m.mem) := (cell_of_heap HM4.out.box).trans rfl
  have z1 : w4.cell? ⟨w.heap.size, 1, none⟩ = some (.slice od m.data.length cd) := (cell_of_heap HM4.out.box).trans rfl
  have z2 : w4.cell? ⟨w.heap.size, 2, none⟩ = some (.slice of m.funcs.length cf) := (cell_of_heap HM4.out.box).trans rfl
  have hlz := heap_lt HM4.out.box
  have HC4 := Lib.hid (HRC.out w4 HM4.out)
  go_wp2_with fail
  refine HC4.out.mono ?_
  rintro e w5 ⟨rfl, hb5⟩
  have HM5 := Lib.hid (HM4.out.next hb5)
  have HX5 := Lib.hid ((hb5.block _ (heap_lt HX4.out)).trans HX4.out)
  clear hb5 HC4 HM4 z0 z1 z2 hlz HX4 HRC
  dsimp only
  have hb6 := below_one w5 (.cells #[.int .i64 a, .int .i64 b, .int .i64 c] 32)
  have HY6 := Lib.hid (heap_alloc_new w5 (.cells #[.int .i64 a, .int .i64 b, .int .i64 c] 32))
  have HX6 := Lib.hid ((hb6.block _ (heap_lt HX5.out)).trans HX5.out)
  have HM6 := Lib.hid (HM5.out.next hb6)
  clear hb6 HX5
  go_upto_region 5 with fail
  generalize w5.alloc (.cells #[.int .i64 a, .int .i64 b, .int .i64 c] 32) = w6 at *
  generalize w5.heap.size = q' at *
  clear HM5
  have z0 : w6.cell? ⟨w.heap.size, 0, none⟩ = some (.int .i64 m.mem) := (cell_of_heap HM6.out.box).trans rfl
  have z1 : w6.cell? ⟨w.heap.size, 1, none⟩ = some (.slice od m.data.length cd) := (cell_of_heap HM6.out.box).trans rfl
  have z2 : w6.cell? ⟨w.heap.size, 2, none⟩ = some (.slice of m.funcs.length cf) := (cell_of_heap HM6.out.box).trans rfl
  have hlz := heap_lt HM6.out.box
  have a0 : w6.cell? ⟨q, 0, none⟩ = some (.int .i64 a) := (cell_of_heap HX6.out).trans rfl
  have a1 : w6.cell? ⟨q, 1, none⟩ = some (.int .i64 b) := (cell_of_heap HX6.out).trans rfl
  have a2 : w6.cell? ⟨q, 2, none⟩ = some (.int .i64 c) := (cell_of_heap HX6.out).trans rfl
  have hla := heap_lt HX6.out
  have b0 : w6.cell? ⟨q', 0, none⟩ = some (.int .i64 a) := (cell_of_heap HY6.out).trans rfl
  have b1 : w6.cell? ⟨q', 1, none⟩ = some (.int .i64 b) := (cell_of_heap HY6.out).trans rfl
  have b2 : w6.cell? ⟨q', 2, none⟩ = some (.int .i64 c) := (cell_of_heap HY6.out).trans rfl
  have hlb := heap_lt HY6.out
  have n0 : (a != a) = false := by simp
  have n1 : (b != b) = false := by simp
  have n2 : (c != c) = false := by simp
  have HH6 := Lib.hid (HHS.out (-1) w6 HM6.out)
  rw [ck.heightsOf_out (by unfold ck.below; exact decide_eq_false (by omega))] at HH6
  go_wp2_with fail
  refine HH6.out.mono ?_
  rintro e w7 ⟨V7, rfl, hr7, hb7⟩
  obtain ⟨o7, c7, rfl⟩ : ∃ o c, V7 = .slice o 0 c := own_slice hr7
  have HM7 := Lib.hid (HM6.out.next hb7)
  have HX7 := Lib.hid ((hb7.block _ (heap_lt HX6.out)).trans HX6.out)
  clear hr7 hb7 HH6 HM6 HX6 HY6 z0 z1 z2 hlz a0 a1 a2 hla b0 b1 b2 hlb n0 n1 n2
  have z0 : w7.cell? ⟨w.heap.size, 0, none⟩ = some (.int .i64 m.mem) := (cell_of_heap HM7.out.box).trans rfl
  have z1 : w7.cell? ⟨w.heap.size, 1, none⟩ = some (.slice od m.data.length cd) := (cell_of_heap HM7.out.box).trans rfl
  have z2 : w7.cell? ⟨w.heap.size, 2, none⟩ = some (.slice of m.funcs.length cf) := (cell_of_heap HM7.out.box).trans rfl
  have hlz := heap_lt HM7.out.box
  have HH7 := Lib.hid (HHS.out (m.funcs.length : Nat) w7 HM7.out)
  rw [ck.heightsOf_out (by unfold ck.below; exact decide_eq_false (by omega))] at HH7
  go_wp2_with fail
  refine HH7.out.mono ?_
  rintro e w8 ⟨V8, rfl, hr8, hb8⟩
  obtain ⟨o8, c8, rfl⟩ : ∃ o c, V8 = .slice o 0 c := own_slice hr8
  have HM8 := Lib.hid (HM7.out.next hb8)
  have HX8 := Lib.hid ((hb8.block _ (heap_lt HX7.out)).trans HX7.out)
  clear hr8 hb8 HH7 HM7 HX7 z0 z1 z2 hlz
  have z2 : w8.cell? ⟨w.heap.size, 2, none⟩ = some (.slice of m.funcs.length cf) := (cell_of_heap HM8.out.box).trans rfl
  have hlz := heap_lt HM8.out.box
  go_upto_region 10 with fail
  clear z2 hlz
  go_loopg [50] m.funcs.length (fun gg s50 wr => ∃ j : Nat, s50 = .int .i64 j ∧ j ≤ m.funcs.length ∧ m.funcs.length - j ≤ gg ∧ Hid (MP w wr w.heap.size m (.slice od m.data.length cd) (.slice of m.funcs.length cf) ∧ wr.heap[q]? = some (.cells #[.int .i64 a, .int .i64 b, .int .i64 c] 29 (0, 0))))
  case atStart => exact ⟨0, rfl, Nat.zero_le _, by omega, Lib.hid ⟨HM8.out, HX8.out⟩⟩
  case round =>
    clear HM8 HX8
    obtain ⟨j, rfl, hj, hgg, HA⟩ := hrel
    by_cases hlt : j < m.funcs.length
    case neg =>
      have hji : ¬ (j : Int) < (m.funcs.length : Int) := by omega
      go_wp2_with fail
      go_ret
      exact ⟨rfl, HA.out.1.bel⟩
    case pos =>
      have hji : (j : Int) < (m.funcs.length : Int) := by omega
      have z0 : wr.cell? ⟨w.heap.size, 0, none⟩ = some (.int .i64 m.mem) := (cell_of_heap HA.out.1.box).trans rfl
      have z1 : wr.cell? ⟨w.heap.size, 1, none⟩ = some (.slice od m.data.length cd) := (cell_of_heap HA.out.1.box).trans rfl
      have z2 : wr.cell? ⟨w.heap.size, 2, none⟩ = some (.slice of m.funcs.length cf) := (cell_of_heap HA.out.1.box).trans rfl
      have hlz := heap_lt HA.out.1.box
      have HHJ := Lib.hid (HHS.out (j : Nat) wr HA.out.1)
      by_cases hc0 : c = 0
      case neg =>
        have hne : (c != 0) = true := by simpa using hc0
        rw [HHX.out (HCC.out.2 hc0) j] at HHJ
        go_wp2_with fail
        refine HHJ.out.mono ?_
        rintro e w9 ⟨V9, rfl, hr9, hb9⟩
        obtain ⟨o9, c9, rfl⟩ : ∃ o c, V9 = .slice o 0 c := own_slice hr9
        have H9 := Lib.hid (And.intro (HA.out.1.next hb9) ((hb9.block _ (heap_lt HA.out.2)).trans HA.out.2))
        clear hr9 hb9 HHJ HA z0 z1 z2 hlz
        have a2 : w9.cell? ⟨q, 2, none⟩ = some (.int .i64 c) := (cell_of_heap H9.out.2).trans rfl
        have hla := heap_lt H9.out.2
        go_wp2_with fail
        go_roundg (m.funcs.length - (j + 1))
        case measure => omega
        case rel => exact ⟨j + 1, by go_num, by omega, Nat.le_refl _, Lib.hid ⟨H9.out.1, H9.out.2⟩⟩
      case pos =>
        have hne : (c != 0) = false := by simpa using hc0
        obtain ⟨⟨hlm, hpt⟩, -⟩ := HFI.out (HCC.out.1 hc0)
        obtain ⟨hptj, hs, hhs⟩ := hpt j hlt
        have hho := HHO.out (HCC.out.1 hc0) j hlt
        rw [hhs] at hho
        replace hho : ck.heightsOf m (j : Int) = hs := hho
        rw [hho] at HHJ
        have HRJ := Lib.hid (fun (W : World) (hb : MP w W w.heap.size m (.slice od m.data.length cd) (.slice of m.funcs.length cf)) => HRH.out j W hb hlm hptj)
        rw [hhs] at HRJ
        clear hlm hpt hptj hhs hho hc0
        go_wp2_with fail
        refine HHJ.out.mono ?_
        rintro e w9 ⟨V9, rfl, hr9, hb9⟩
        obtain ⟨o9, c9, rfl⟩ := own_slice hr9
        have H9 := Lib.hid (And.intro (HA.out.1.next hb9) ((hb9.block _ (heap_lt HA.out.2)).trans HA.out.2))
        have HR9 : Hid (NsIn w9 (fun _ => True) (.slice o9 hs.length c9) hs) := Lib.hid (RowIn.of_own hr9 (by simp [inC]) _ (fun _ _ => trivial))
        clear hr9 hb9 HHJ HA z0 z1 z2 hlz
        have a2 : w9.cell? ⟨q, 2, none⟩ = some (.int .i64 c) := (cell_of_heap H9.out.2).trans rfl
        have hla := heap_lt H9.out.2
        have z0 : w9.cell? ⟨w.heap.size, 0, none⟩ = some (.int .i64 m.mem) := (cell_of_heap H9.out.1.box).trans rfl
        have z1 : w9.cell? ⟨w.heap.size, 1, none⟩ = some (.slice od m.data.length cd) := (cell_of_heap H9.out.1.box).trans rfl
        have z2 : w9.cell? ⟨w.heap.size, 2, none⟩ = some (.slice of m.funcs.length cf) := (cell_of_heap H9.out.1.box).trans rfl
        have hlz := heap_lt H9.out.1.box
        have HRK := Lib.hid (HRJ.out w9 H9.out.1)
        clear HRJ
        go_wp2_with fail
        refine HRK.out.mono ?_
        rintro e wA ⟨hbA, VA, rfl, hrA⟩
        obtain ⟨oA, cA, rfl⟩ := own_slice hrA
        have HA := Lib.hid (And.intro (H9.out.1.next hbA) ((hbA.block _ (heap_lt H9.out.2)).trans H9.out.2))
        have HSI := Lib.hid (sameInts_eq _ _ _ _ hs wA (RowIn.below HR9.out hbA) (show NsIn wA (fun _ => True) (.slice oA hs.length cA) hs from RowIn.of_own hrA (by simp [inC]) _ (fun _ _ => trivial)))
        clear hbA hrA HRK H9 HR9 a2 hla z0 z1 z2 hlz
        go_wp2_with fail
        refine HSI.out.mono ?_
        rintro e wB ⟨rfl, hbB⟩
        have HB := Lib.hid (And.intro (HA.out.1.next hbB) ((hbB.block _ (heap_lt HA.out.2)).trans HA.out.2))
        clear hbB HSI HA
        go_wp2_with fail
        go_roundg (m.funcs.length - (j + 1))
        case measure => omega
        case rel => exact ⟨j + 1, by go_num, by omega, Nat.le_refl _, Lib.hid ⟨HB.out.1, HB.out.2⟩⟩
end Go.Proofs.YtoknolljfeaapaaDoor
