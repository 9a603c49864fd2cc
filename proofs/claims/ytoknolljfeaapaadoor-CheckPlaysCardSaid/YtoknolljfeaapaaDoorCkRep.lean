/- slices.Repeat of one number. -/
import Derived.Test.YtoknolljfeaapaaDoorCkReach
import Derived.Test.YtoknolljfeaapaaDoorShelf
import Derived.Laws.CopyOwn
namespace Go.Proofs.YtoknolljfeaapaaDoor
open Go.RowKit
theorem hszInt : (Tryd.prog.info? 3).map (·.size) = some 1 := by kernel_rfl
theorem run_make_ints (n : Nat) (h : n ≤ 1048576) (W : World) : (Instr.makeSlice 34 (.int .i64 (n : Int)) (.int .i64 (n : Int))).run Tryd.prog W = .ok (.slice (some ⟨W.heap.size, 0, none⟩) n n) (W.alloc (.cells (madeCells #[Value.int .i64 0] n) 3)) := by
  obtain ⟨i, hi, h1, h2, h3⟩ := info_parts infoInt
  have := run_make (P := Tryd.prog) W 34 3 i _ Tryd.underlying34 hi h1 .i64 .i64 (n : Int) (n : Int) (by omega) (by omega) (by rw [h3]; omega) (by omega)
  rw [this, h2]
  simp only [Int.toNat_natCast, Nat.mul_one]
  rfl
set_option maxRecDepth 100000 in
theorem run_ihi (o : Option Addr) (n cap : Nat) (k : IntKind) (l : Nat) (hl : (l : Int) ≤ (n : Int)) (hc : n ≤ cap) (wx : World) : (Instr.slice 34 (.slice o n cap) none (some (.int k (l : Int))) none).run Tryd.prog wx = .ok (.slice o l cap) wx := by
  rw [run_slice_h wx 34 o n cap Tryd.underlying34 k l (by omega) (by omega)]
  have hz : (sizeOf (Tryd.prog.elem 34)).run Tryd.prog wx = .ok 1 wx := by kernel_rfl
  rw [hz]
  have e : (fun x : Addr => x.add 0) = id := funext addr_add0
  simp [Result.andThen, sliced, e]
/-- what Repeat answers -/
def RepAns (n : Nat) (w w' : World) (e : Ending) : Prop := ∃ g, e = .returned (.slice (some ⟨g, 0, none⟩) n n) ∧ w.heap.size ≤ g ∧ w'.heap[g]? = some (.cells (inC (List.replicate n (-1))).toArray 3 (0, 0)) ∧ Below w.heap.size w w'
theorem take_splice {l : List Value} {j m : Nat} {v : Value} (h : l.take j = List.replicate j v) : (splice l j (List.replicate m v)).take (j + m) = List.replicate (j + m) v := by
  unfold splice
  rw [h, ← List.append_assoc, List.replicate_append_replicate, List.take_append_of_le_length (by simp), List.take_of_length_le (by simp)]
set_option maxRecDepth 100000 in
set_option maxHeartbeats 1600000 in
theorem rep_any (g0 n : Nat) (w : World) (h1 : 1 ≤ n) (hn : n ≤ 1000) (hx : w.cell? ⟨g0, 0, none⟩ = some (.int .i64 (-1))) :
    Calls Tryd.prog 55 #[.slice (some ⟨g0, 0, none⟩) 1 1, .int .i64 n] w fun e w' => RepAns n w w' e := by
  have hg0 := World.block_lt_of_cell? w _ hx
  dsimp only at hg0
  have hn0 : ¬ (n : Int) < 0 := by omega
  have hn9 : ¬ (9223372036854775807 : Int) < (n : Int) := by omega
  have hmu : ∀ W, Calls Tryd.prog 72 #[.int .u64 1, .int .u64 (n : Int)] W fun e w' => e = .returned (.tuple #[.int .u64 0, .int .u64 (n : Int)]) ∧ w' = W := fun W => by
    have := Tryd.bits_Mul 1 n (by decide) (by omega) W
    rw [show 1 * n / 18446744073709551616 = 0 by omega, show 1 * n % 18446744073709551616 = n by omega] at this
    exact this
  have HMU := Lib.hid hmu
  have hmk := run_make_ints n (by omega)
  obtain ⟨X, hX⟩ : ∃ X, madeCells #[Value.int .i64 0] n = X := ⟨_, rfl⟩
  have hXs : X.size = n := by rw [← hX]; have := size_madeCells #[Value.int .i64 0] n; simpa using this
  rw [hX] at hmk
  have HXS := Lib.hid hXs
  have HX := Lib.hid hx
  clear hmu hX hXs hx
  go_enter Tryd.func55, Tryd.ntmps55
  go_wp2_with fail
  refine (HMU.out _).mono ?_
  rintro e w' ⟨rfl, hw⟩
  replace hw := hw.symm
  subst hw
  go_upto_region 7 with fail
  clear hmk HMU
  have hb1 := below_one w (.cells X 3)
  have H1 : Hid ((w.alloc (.cells X 3)).heap[w.heap.size]? = some (.cells X.toList.toArray 3 (0, 0)) ∧ Below w.heap.size w (w.alloc (.cells X 3)) ∧ (w.alloc (.cells X 3)).cell? ⟨g0, 0, none⟩ = some (.int .i64 (-1))) := Lib.hid
    ⟨by rw [Array.toArray_toList]; exact heap_alloc_new w _, hb1, (cell_of_eq (hb1.block _ hg0) 0).trans HX.out⟩
  have HXL : Hid (X.toList.length = n) := Lib.hid (by simpa using HXS.out)
  clear hb1 HXS HX
  generalize w.alloc (.cells X 3) = w1 at *
  generalize X.toList = xs at *
  have HSRC1 : Hid (∀ i v, (List.replicate 1 (Value.int .i64 (-1)))[i]? = some v → w1.cell? ((⟨g0, 0, none⟩ : Addr).add i) = some v) := Lib.hid (fun i v hv => by
    have hi : i < 1 := by simpa using (List.getElem?_eq_some_iff.1 hv).1
    obtain rfl : i = 0 := by omega
    rw [addr_b0]
    rw [← Option.some.inj hv]
    exact H1.out.2.2)
  obtain ⟨B, hB⟩ : ∃ B, w.heap.size = B := ⟨_, rfl⟩
  rw [hB] at H1 ⊢
  have HB := Lib.hid hB
  clear hB
  go_wp2_with (with_reducible refine wpList_copy_splice rfl (.tmp 31) (.tmp 32) 34 34 rfl 3 Tryd.underlying34 hszInt (some ⟨B, 0, none⟩) (some ⟨g0, 0, none⟩) n n 1 1 rfl rfl B 0 xs 3 H1.out.1 (List.replicate 1 (.int .i64 (-1))) ?c1 (fun _ => ⟨rfl, _, rfl, HSRC1.out⟩) ?c3 ?c4 B w H1.out.2.1 (Nat.le_refl _) ?_)
  case c1 => show 1 = Nat.min 1 n; exact (Nat.min_eq_left h1).symm
  case c3 => show 0 + 1 ≤ xs.length; rw [HXL.out]; omega
  case c4 => intro v hv; obtain rfl := List.eq_of_mem_replicate hv; rfl
  intro w2 HG2 hB2
  have H2 : Hid ((splice xs 0 (List.replicate 1 (Value.int .i64 (-1)))).take 1 = List.replicate 1 (.int .i64 (-1)) ∧ (splice xs 0 (List.replicate 1 (Value.int .i64 (-1)))).length = n ∧ w2.heap[B]? = some (.cells (splice xs 0 (List.replicate 1 (Value.int .i64 (-1)))).toArray 3 (0, 0)) ∧ Below B w w2) := Lib.hid
    ⟨take_splice (j := 0) (m := 1) rfl, by rw [length_splice _ _ _ (by show 0 + 1 ≤ _; rw [HXL.out]; omega)]; exact HXL.out, HG2.out, hB2⟩
  clear HG2 hB2 H1 HXL
  generalize splice xs 0 (List.replicate 1 (Value.int .i64 (-1))) = cur0 at *
  go_upto_region 8 with fail
  go_loopg [8] n (fun gg s8 wr => ∃ (j : Nat) (cur : List Value), s8 = .int .i64 j ∧ 1 ≤ j ∧ j ≤ n ∧ n - j ≤ gg ∧ Hid (cur.take j = List.replicate j (.int .i64 (-1)) ∧ cur.length = n ∧ wr.heap[B]? = some (.cells cur.toArray 3 (0, 0)) ∧ Below B w wr))
  case atStart => exact ⟨1, cur0, rfl, Nat.le_refl _, h1, by omega, H2⟩
  case round =>
    clear H2
    obtain ⟨j, cur, rfl, hj1, hj, hgg, HA⟩ := hrel
    by_cases hlt : j < n
    case neg =>
      obtain rfl : j = n := by omega
      have hji : ¬ (j : Int) < (j : Int) := by omega
      go_wp2_with fail
      go_ret
      have e : cur = inC (List.replicate j (-1)) := by
        have := HA.out.1
        rw [List.take_of_length_le (by rw [HA.out.2.1]; exact Nat.le_refl _)] at this
        rw [this]
        simp [inC]
      refine ⟨B, rfl, by rw [HB.out]; exact Nat.le_refl _, ?_, by rw [HB.out]; exact HA.out.2.2.2⟩
      rw [← e]
      exact HA.out.2.2.1
    case pos =>
      have hji : (j : Int) < (n : Int) := by omega
      have hlo : ∀ wx, (Instr.slice 34 (.slice (some ⟨B, 0, none⟩) n n) (some (.int .i64 (j : Int))) none none).run Tryd.prog wx = .ok (.slice (some ⟨B, j, none⟩) (n - j) (n - j)) wx := fun wx => by
        rw [run_ilo _ _ _ _ _ (by omega), slo_some rfl hlt, Nat.zero_add]
      have hhi : ∀ wx, (Instr.slice 34 (.slice (some ⟨B, 0, none⟩) n n) none (some (.int .i64 (j : Int))) none).run Tryd.prog wx = .ok (.slice (some ⟨B, 0, none⟩) j n) wx := fun wx => run_ihi _ _ _ _ _ (by omega) (Nat.le_refl _) wx
      obtain ⟨m, hm⟩ : ∃ m, Nat.min j (n - j) = m := ⟨_, rfl⟩
      have hm1 : 1 ≤ m := by rw [← hm]; exact Nat.le_min.2 ⟨hj1, by omega⟩
      have hm2 : m ≤ j := by rw [← hm]; exact Nat.min_le_left _ _
      have hm3 : m ≤ n - j := by rw [← hm]; exact Nat.min_le_right _ _
      have hjm : j + m ≤ n := by omega
      have HM := Lib.hid hm
      have hsum : IntKind.i64.wrap ((j : Int) + (m : Int)) = (j : Int) + (m : Int) := by rw [IntKind.wrap_i64]; omega
      have HSRC : Hid (∀ i v, (List.replicate m (Value.int .i64 (-1)))[i]? = some v → wr.drew.cell? ((⟨B, 0, none⟩ : Addr).add i) = some v) := Lib.hid (fun i v hv => by
        have hi : i < m := by simpa using (List.getElem?_eq_some_iff.1 hv).1
        rw [addr_b0, cell_of_heap (w := wr.drew) HA.out.2.2.1, List.getElem?_toArray]
        have h2 : (cur.take j)[i]? = (List.replicate j (Value.int .i64 (-1)))[i]? := by rw [HA.out.1]
        rw [List.getElem?_take_of_lt (by omega)] at h2
        rw [h2]
        rw [List.getElem?_replicate] at hv ⊢
        rw [if_pos hi] at hv
        rw [if_pos (by omega)]
        exact hv)
      have hlt2 : B < wr.heap.size := heap_lt HA.out.2.2.1
      clear hm hm2 hm3
      go_upto_region 9 with fail
      go_region_law (refine step_copy_splice rfl (.tmp 41) (.tmp 44) 34 34 rfl 3 Tryd.underlying34 hszInt (some ⟨B, j, none⟩) (some ⟨B, 0, none⟩) (n - j) (n - j) j n (by go_simp) (by go_simp) B j cur 3 HA.out.2.2.1 (List.replicate m (.int .i64 (-1))) (by rw [List.length_replicate]; exact HM.out.symm) (fun _ => ⟨rfl, _, rfl, HSRC.out⟩) (by rw [List.length_replicate, HA.out.2.1]; exact hjm) (by intro v hv; obtain rfl := List.eq_of_mem_replicate hv; rfl) B w (below_dN HA.out.2.2.2 1) (Nat.le_refl _) ?_; intro w4 HG4 hB4)
      have H4 := Lib.hid (And.intro (take_splice (m := m) HA.out.1) (And.intro ((length_splice cur j (List.replicate m (Value.int .i64 (-1))) (by rw [List.length_replicate, HA.out.2.1]; exact hjm)).trans HA.out.2.1) (And.intro HG4.out hB4)))
      clear HG4 hB4 HSRC HA hlo hhi
      generalize splice cur j (List.replicate m (Value.int .i64 (-1))) = cur4 at *
      go_wp2_with fail
      go_roundg (n - (j + m))
      case measure => omega
      case rel => exact ⟨j + m, cur4, by go_num, by omega, hjm, Nat.le_refl _, H4⟩
end Go.Proofs.YtoknolljfeaapaaDoor
