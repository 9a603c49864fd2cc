/- ModuleBegins: the walk. -/
import Derived.Test.YtijnfblmjknicaaMdAlive
namespace Go.Proofs.Ytijnfblmjknicaa
open Go.RowKit
theorem i64_and4095 (n : Int) : bits .and .i64 n 4095 = n % 4096 := by
  have key : ((BitVec.ofInt 64 n &&& BitVec.ofInt 64 4095).toNat : Int) = n % 4096 := by
    have h1 : BitVec.ofInt 64 4095 = 4095#64 := by decide
    rw [h1, BitVec.toNat_and, BitVec.toNat_ofInt, show (4095#64).toNat = 4095 from rfl, show (4095 : Nat) = 2 ^ 12 - 1 from rfl, Nat.and_two_pow_sub_one_eq_mod]
    omega
  show IntKind.i64.wrap ((BitVec.ofInt 64 n &&& BitVec.ofInt 64 4095).toNat : Nat) = n % 4096
  rw [key, IntKind.wrap_i64]
  omega
theorem md.dec_bad {b : List UInt8} (h : md.code b = 120) : md.dec b = md.zero := by unfold md.dec; rw [h]; rfl
theorem md.write_pos (m : md.Mod) : 0 < (md.write m).length := by unfold md.write md.head; simp
theorem BRow.toIn {w : World} {B : Nat} {v : Value} {l : List UInt8} (h : BRow w B v l) : BsIn w (fun _ => True) v l := RowIn.of_own h (by rw [byC_len, Nat.mul_one]) _ (fun _ _ => trivial)
/-- an empty row that is written out -/
theorem empty_row (w : World) (B : Nat) (hB : B ≤ w.heap.size) : BRow (w.alloc (.cells #[] 5)) B (.slice (some ⟨w.heap.size, 0, none⟩) 0 0) [] := World.ownsRow_lit w #[] 0 hB (by unfold maxLen; omega) rfl
set_option maxRecDepth 100000 in
set_option maxHeartbeats 3200000 in
theorem begins_any (m : md.Mod) (VD VF : Value) (x : Int) (c : UInt8) (w : World) (h : ModIn w (fun b => b < w.heap.size) VD VF m) (hi : md.fnsI m.funcs) :
    Calls Try.prog 6 #[modV m VD VF, .int .i64 x, .int .u8 (c.toNat : Nat)] w fun e w' => e = .returned (.bool true) ∧ Below w.heap.size w w' := by
  have HAL := Lib.hid (fun W => alive_any W)
  have HBG := Lib.hid (fun he n hn => md.begins (m := m) he hi n hn)
  have HMO := Lib.hid (fun he hl => md.more (m := m) he hi c hl)
  have HE0 := Lib.hid (md.err0 (m := m))
  have HEN : Hid (md.err m ≠ 0 → md.err m = 1 ∨ md.err m = 2) := Lib.hid (fun h => by unfold md.err at h ⊢; split <;> (try split) <;> simp_all)
  have HEC := Lib.hid (fun W hW hD => encode_any (fun b => b < w.heap.size) m VD VF W hW hD hi)
  have hb0 := below_one w (.cells #[.int .i64 m.mem, VD, VF] 26)
  have hn0 := heap_alloc_new w (.cells #[.int .i64 m.mem, VD, VF] 26)
  obtain ⟨od, cd, of, cf, rfl, rfl, -⟩ := h.slices
  have H0 := Lib.hid (And.intro hn0 (And.intro (h.below hb0) hb0))
  have hand := i64_and4095 x
  have hpos := md.write_pos m
  have hc := c.toNat_lt
  clear h hb0 hn0
  obtain ⟨mem, d, fs⟩ := m
  go_enter Try.func6, Try.ntmps6
  go_wp2_with fail
  refine (HAL.out _).mono ?_
  rintro e w1 ⟨rfl, hb1⟩
  have H1 := Lib.hid (And.intro ((hb1.block _ (heap_lt H0.out.1)).trans H0.out.1) (And.intro (H0.out.2.1.below hb1) (H0.out.2.2.trans (hb1.mono H0.out.2.2.size))))
  clear hb1 H0
  have k0 : w1.cell? ⟨w.heap.size, 0, none⟩ = some (.int .i64 mem) := (cell_of_heap H1.out.1).trans rfl
  have k1 : w1.cell? ⟨w.heap.size, 1, none⟩ = some (.slice od d.length cd) := (cell_of_heap H1.out.1).trans rfl
  have k2 : w1.cell? ⟨w.heap.size, 2, none⟩ = some (.slice of fs.length cf) := (cell_of_heap H1.out.1).trans rfl
  have hlt1 := heap_lt H1.out.1
  have HENC := Lib.hid (HEC.out w1 H1.out.2.1 (fun k hk => Nat.lt_trans hk hlt1))
  have HB1 := Lib.hid H1.out.2.2
  clear HEC H1 HAL
  go_wp2_with fail
  refine HENC.out.mono ?_
  rintro e w2 ⟨v2, rfl, hr2, hb2⟩
  have HB2 := Lib.hid (HB1.out.trans (hb2.mono HB1.out.size))
  have HR2 := Lib.hid hr2
  clear hb2 HENC HB1 k0 k1 k2 hr2
  by_cases he : md.err ⟨mem, d, fs⟩ = 0
  case neg =>
    have e1 : (((md.err ⟨mem, d, fs⟩ : Nat) : Int) != 0) = true := by simp; omega
    generalize md.err ⟨mem, d, fs⟩ = er at *
    clear HBG HMO HE0 HEN
    go_wp2_with fail
    go_ret
    exact ⟨rfl, HB2.out⟩
  case pos =>
    obtain ⟨-, hl4, hen⟩ := HE0.out he
    have HBG2 := Lib.hid (HBG.out he)
    have HMO2 := Lib.hid (HMO.out he)
    have hr2 := HR2.out
    rw [hen] at hr2
    rw [he]
    clear he HBG HMO HE0 HEN HR2 hen
    generalize md.write ⟨mem, d, fs⟩ = X at *
    have HROW := Lib.hid hr2
    obtain ⟨ao, ac, rfl⟩ := own_slice hr2
    have hac := (RowIn.lens hr2.toIn).2
    clear hr2
    have hmod : 0 ≤ x % 4096 ∧ x % 4096 < 4096 := by omega
    obtain ⟨y, hy⟩ : ∃ y : Nat, x % 4096 = y := ⟨(x % 4096).toNat, by omega⟩
    rw [hy] at hand
    obtain ⟨n, hn⟩ : ∃ n : Nat, y % X.length = n := ⟨_, rfl⟩
    have hnl : n < X.length := by rw [← hn]; exact Nat.mod_lt _ hpos
    have hrem : Int.tmod (y : Int) (X.length : Int) = (n : Int) := by rw [← hn]; rfl
    clear hmod hy hn
    have hsl := fun wx => run_bhi ao X.length ac .i64 n (by omega) hac.1 wx
    obtain ⟨hc1, hp1⟩ := HBG2.out n hnl
    have HD1 := Lib.hid (decode_then _ _ (X.take n) w2 (BsIn.take HROW.out.toIn n (by omega)) md.zero 120 n ⟨md.dec_bad hc1, hc1, hp1⟩ 0 0 0 rfl rfl rfl)
    clear hc1 hp1 HBG2
    go_upto_region 7 with fail
    go_wp2_with fail
    refine HD1.out.mono ?_
    rintro e w3 ⟨od3, cd3, of3, cf3, rfl, -, hb3⟩
    have H3 := Lib.hid (And.intro (row_below HROW.out hb3) (HB2.out.trans (hb3.mono HB2.out.size)))
    clear hb3 HD1 HROW HB2 hand hrem hsl
    go_upto_region 8 with fail
    obtain ⟨w4, hw4⟩ : ∃ w4, (w3.alloc (.cells #[.int .i64 0, .slice od3 0 cd3, .slice of3 0 cf3] 26)).alloc (.cells #[.int .i64 120, .int .i64 n] 29) = w4 := ⟨_, rfl⟩
    have hx4 := boxes_two w3 _ _ _ _ _ w4 hw4
    rw [hw4]
    have H4 := Lib.hid (And.intro (row_below H3.out.1 hx4.2.2) (H3.out.2.trans (hx4.2.2.mono H3.out.2.size)))
    have f0 : w4.cell? ⟨w3.heap.size + 1, 0, none⟩ = some (.int .i64 120) := (cell_of_heap hx4.2.1).trans rfl
    have f1 : w4.cell? ⟨w3.heap.size + 1, 1, none⟩ = some (.int .i64 n) := (cell_of_heap hx4.2.1).trans rfl
    have f2 : w4.cell? ⟨w3.heap.size, 2, none⟩ = some (.slice of3 0 cf3) := (cell_of_heap hx4.1).trans rfl
    have hl0 := heap_lt hx4.1
    have hl1 := heap_lt hx4.2.1
    clear hx4 hw4 H3
    generalize w3.heap.size = q3 at *
    by_cases hfull : 4096 ≤ X.length
    · have hfi : (4096 : Int) ≤ (X.length : Int) := by omega
      clear HMO2
      generalize X.length = nx at *
      go_wp2_with fail
      go_ret
      exact ⟨rfl, H4.out.2⟩
    · have hfi : ¬ (4096 : Int) ≤ (X.length : Int) := by omega
      have HMO3 := Lib.hid (HMO2.out (by omega))
      clear HMO2
      go_upto_region 12 with fail
      clear f0 f1 f2 hl0 hl1
      have hbw : w.heap.size ≤ w4.heap.size := H4.out.2.size
      have hb5 := below_one w4 (.cells #[] 5)
      have H5 := Lib.hid (And.intro (empty_row w4 w4.heap.size (Nat.le_refl _)) (And.intro (BRow.toIn (row_below H4.out.1 hb5)) (H4.out.2.trans (hb5.mono hbw))))
      have HR4 := Lib.hid H4.out.1
      clear hb5 H4
      go_wp2_with (at_builtin; go_loud (refine wpList_bytes rfl _ _ rfl w4.heap.size (.slice (some ⟨w4.heap.size, 0, none⟩) 0 0) [] rfl H5.out.1 ao X.length ac (fun _ => True) X rfl H5.out.2.1 (show 0 + X.length ≤ _ by omega) (by simp) ?_))
      intro v6 w6 r1 r2
      have H6 := Lib.hid (And.intro r1 (H5.out.2.2.grown r2 (by simp; omega) (fun k hk => by have := (H5.out.1.lt k hk).1; omega)))
      have hbs6 : w4.heap.size ≤ w6.heap.size := by have := r2.size; simp at this; omega
      obtain ⟨ao6, ac6, rfl⟩ := own_slice r1
      clear r1 r2 H5
      have HC6 : Hid (#[Value.int .u8 (c.toNat : Nat)] = (byC [c]).toArray) := Lib.hid rfl
      go_wp2_with (at_builtin; go_loud (refine wpList_lit w6 _ rfl _ _ rfl w4.heap.size (.slice ao6 X.length ac6) X rfl H6.out.1 w6.heap.size rfl 1 [c] rfl HC6.out rfl (show X.length + 1 ≤ _ by omega) hbs6 ?_))
      intro v7 w7 r1 r2
      obtain ⟨Y, hY⟩ : ∃ Y, X ++ [c] = Y := ⟨_, rfl⟩
      rw [hY] at r1 HMO3
      clear hY
      have H7 := Lib.hid (And.intro (BRow.toIn r1) (H6.out.2.trans (r2.bel.mono hbw)))
      obtain ⟨ao7, ac7, rfl⟩ := own_slice r1
      clear r1 r2 H6 HC6 hbs6
      have HD2 := Lib.hid (decode_then _ _ Y w7 H7.out.1 md.zero 120 X.length ⟨md.dec_bad HMO3.out.1, HMO3.out⟩ 0 0 0 rfl rfl rfl)
      clear HMO3
      go_wp2_with fail
      refine HD2.out.mono ?_
      rintro e w8 ⟨od8, cd8, of8, cf8, rfl, -, hb8⟩
      have HB8 := Lib.hid (H7.out.2.trans (hb8.mono H7.out.2.size))
      clear hb8 HD2 H7
      go_upto_region 13 with fail
      obtain ⟨w9, hw9⟩ : ∃ w9, (w8.alloc (.cells #[.int .i64 0, .slice od8 0 cd8, .slice of8 0 cf8] 26)).alloc (.cells #[.int .i64 120, .int .i64 X.length] 29) = w9 := ⟨_, rfl⟩
      have hx9 := boxes_two w8 _ _ _ _ _ w9 hw9
      rw [hw9]
      have HB9 := Lib.hid (HB8.out.trans (hx9.2.2.mono HB8.out.size))
      have f0 : w9.cell? ⟨w8.heap.size + 1, 0, none⟩ = some (.int .i64 120) := (cell_of_heap hx9.2.1).trans rfl
      have f1 : w9.cell? ⟨w8.heap.size + 1, 1, none⟩ = some (.int .i64 X.length) := (cell_of_heap hx9.2.1).trans rfl
      have hl1 := heap_lt hx9.2.1
      clear hx9 hw9 HB8
      go_wp2_with fail
      go_ret
      exact ⟨rfl, HB9.out⟩
end Go.Proofs.Ytijnfblmjknicaa
