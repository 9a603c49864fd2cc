/- The document's own functions: is a size right, sums, one cell more or less at a place, the least total. -/
import Derived.Test.YteilaoiimlpbkaaSolMoved
import Derived.Test.YteilaoiimlpbkaaSolAlive
namespace Go.Proofs.Yteilaoiimlpbkaa
open Go.RowKit
attribute [local go_sem ↓ 10000] run_mn run_mx
set_option maxHeartbeats 800000 in
theorem right_any (k n : Int) (w : World) : Calls Try.prog 14 #[.agg #[.int .i64 k, .int .i64 n]] w fun e w' => e = .returned (.bool (sl.good ⟨k, n⟩)) ∧ Below w.heap.size w w' := by
  have HD : Hid (sl.good ⟨k, n⟩ = decide (k = 0 ∨ (k = 1 ∧ 1 ≤ n ∧ n ≤ 200) ∨ (k = 2 ∧ 1 ≤ n ∧ n ≤ 100))) := Lib.hid rfl
  generalize sl.good ⟨k, n⟩ = R at *
  have hb := (Below.refl w.heap.size w).alloc (Nat.le_refl _) (.cells #[.int .i64 k, .int .i64 n] 33)
  have HB := Lib.hid hb
  clear hb
  by_cases h0 : k = 0
  · subst h0
    go_enter Try.func14, Try.ntmps14
    go_wp2
    go_ret
    exact ⟨ret_bool (by rw [HD.out]; simp), HB.out⟩
  have e0 : (k == 0) = false := by simpa using h0
  by_cases h1 : k = 1
  · subst h1
    by_cases g1 : 1 ≤ n
    · by_cases g2 : n ≤ 200
      all_goals
        go_enter Try.func14, Try.ntmps14
        go_wp2
        go_ret
        exact ⟨ret_bool (by rw [HD.out]; simp; omega), HB.out⟩
    · go_enter Try.func14, Try.ntmps14
      go_wp2
      go_ret
      exact ⟨ret_bool (by rw [HD.out]; simp; omega), HB.out⟩
  have e1 : (k == 1) = false := by simpa using h1
  by_cases h2 : k = 2
  · subst h2
    by_cases g1 : 1 ≤ n
    · by_cases g2 : n ≤ 100
      all_goals
        go_enter Try.func14, Try.ntmps14
        go_wp2
        go_ret
        exact ⟨ret_bool (by rw [HD.out]; simp; omega), HB.out⟩
    · go_enter Try.func14, Try.ntmps14
      go_wp2
      go_ret
      exact ⟨ret_bool (by rw [HD.out]; simp; omega), HB.out⟩
  have e2 : (k == 2) = false := by simpa using h2
  go_enter Try.func14, Try.ntmps14
  go_wp2
  go_ret
  exact ⟨ret_bool (by rw [HD.out]; simp; omega), HB.out⟩
theorem sum_snoc_at (zs : List Int) (k : Nat) (h : k < zs.length) : (zs.take (k + 1)).sum = (zs.take k).sum + zs.getD k 0 := by rw [sl.int_take_snoc zs k h, sl.sum_snoc]
set_option maxHeartbeats 800000 in
theorem sum_any (o : Option Addr) (n cap : Nat) (zs : List Int) (w : World) (hx : Ints w o n cap zs) (hn : n ≤ 16) (hz : ∀ k, k ≤ n → 0 ≤ (zs.take k).sum ∧ (zs.take k).sum ≤ 100000) :
    Calls Try.prog 20 #[.slice o n cap] w fun e w' => e = .returned (.int .i64 zs.sum) ∧ w' = w := by
  have hm : cap ≤ 9223372036854775807 := hx.max
  have hle := hx.le
  have HX := Lib.hid hx
  have HZ := Lib.hid hz
  clear hx hz
  go_enter Try.func20, Try.ntmps20
  go_wp2_with fail
  go_loopg [3, 4] n (fun gg s3 s4 wr => ∃ (k : Nat) (x : Int), s4 = .int .i64 k ∧ s3 = .int .i64 x ∧ k ≤ n ∧ n - k ≤ gg ∧ 0 ≤ x ∧ x ≤ 100000 ∧ Hid (x = (zs.take k).sum ∧ wr = w))
  case atStart => exact ⟨0, 0, rfl, rfl, Nat.zero_le _, by omega, by omega, by omega, Lib.hid ⟨rfl, rfl⟩⟩
  case round =>
    obtain ⟨k, x, rfl, rfl, hk, hgg, hx1, hx2, HA⟩ := hrel
    obtain rfl := HA.out.2
    by_cases hlt : k < n
    · obtain ⟨b, off, rfl, hb, kz⟩ := HX.out.cell hlt
      have hst := sum_snoc_at zs k (by rw [HX.out.len]; exact hlt)
      have hbd := HZ.out (k + 1) (by omega)
      rw [hst, ← HA.out.1] at hbd
      rw [← HA.out.1] at hst
      generalize zs.getD k 0 = z at *
      have HST := Lib.hid hst
      clear hst
      have hki : (k : Int) < (n : Int) := by omega
      go_wp2_with fail
      go_roundg (n - (k + 1))
      case measure => omega
      case rel => exact ⟨k + 1, x + z, by go_num, rfl, by omega, Nat.le_refl _, by omega, by omega, Lib.hid ⟨HST.out.symm, rfl⟩⟩
    · obtain rfl : k = n := by omega
      have HF : Hid (x = zs.sum) := Lib.hid (by rw [HA.out.1, List.take_of_length_le (by rw [HX.out.len]; exact Nat.le_refl _)])
      go_wp2_with fail
      go_ret
      exact ⟨ret_int HF.out, rfl⟩
theorem add_at (zs : List Int) (at_ : Nat) (d : Int) (k : Nat) (hk : k < zs.length) : (sl.add zs at_ d).getD k 0 = if k = at_ then zs.getD k 0 + d else zs.getD k 0 := by
  by_cases h : k = at_
  · subst h; rw [if_pos rfl, sl.add_same _ _ _ hk]
  · rw [if_neg h, sl.add_other _ _ _ _ (Ne.symm h)]
set_option maxHeartbeats 1600000 in
theorem change_any (o : Option Addr) (n cap : Nat) (zs : List Int) (at_ : Nat) (d : Int) (w : World) (hx : Ints w o n cap zs) (hn : n ≤ 16) (hz : ∀ k, k < n → -100000 ≤ zs.getD k 0 ∧ zs.getD k 0 ≤ 100000) (hd0 : -1 ≤ d) (hd1 : d ≤ 1) :
    Calls Try.prog 21 #[.slice o n cap, .int .i64 at_, .int .i64 d] w fun e w' => ∃ V, e = .returned V ∧ RowN w' w.heap.size V (sl.add zs at_ d) ∧ Below w.heap.size w w' := by
  have hm : cap ≤ 9223372036854775807 := hx.max
  have hle := hx.le
  have HX := Lib.hid hx
  have HZ := Lib.hid hz
  have HLN := Lib.hid hx.len
  have HAL : Hid ((sl.add zs at_ d).length = n) := Lib.hid (by rw [sl.add_len]; exact HLN.out)
  have HAT := Lib.hid (add_at zs at_ d)
  clear hx hz
  generalize sl.add zs at_ d = ys at *
  have h0 : RowN (w.alloc (.cells #[] 3)) w.heap.size (.slice (some ⟨w.heap.size, 0, none⟩) 0 0) [] := World.ownsRow_made (base := w.heap.size) (e := 3) (size := 1) w #[] 0 (by simp) (by unfold maxLen; omega) (by simp)
  have H0 := Lib.hid h0
  have HB0 := Lib.hid ((Below.refl w.heap.size w).alloc (Nat.le_refl _) (.cells #[] 3))
  clear h0
  go_enter Try.func21, Try.ntmps21
  go_wp2_with fail
  go_loopg [7, 8] n (fun gg s7 s8 wr => ∃ k : Nat, s8 = .int .i64 k ∧ k ≤ n ∧ n - k ≤ gg ∧ Hid (RowN wr w.heap.size s7 (ys.take k) ∧ Below w.heap.size w wr))
  case atStart => exact ⟨0, rfl, Nat.zero_le _, by omega, Lib.hid ⟨H0.out, HB0.out⟩⟩
  case round =>
    obtain ⟨k, rfl, hk, hgg, HA⟩ := hrel
    clear H0 HB0
    obtain ⟨ao, ac, hv, hai⟩ := HA.out.1.ints
    have hac : ac ≤ 9223372036854775807 := hai.max
    have hlk : (ys.take k).length = k := by rw [List.length_take, HAL.out]; omega
    rw [hlk] at hv
    subst hv
    clear hai
    by_cases hlt : k < n
    · obtain ⟨b, off, rfl, hb, kz⟩ := (HX.out.below HA.out.2).cell hlt
      have hbz := HZ.out k hlt
      have hat := HAT.out k (by rw [HLN.out]; exact hlt)
      have hst := sl.int_take_snoc ys k (by rw [HAL.out]; exact hlt)
      generalize zs.getD k 0 = z at *
      rw [hat] at hst
      have HST := Lib.hid hst
      have HLK := Lib.hid hlk
      clear hat hst hlk
      have hki : (k : Int) < (n : Int) := by omega
      by_cases he : k = at_
      · subst he
        have HS2 : Hid (ys.take (k + 1) = ys.take k ++ [z + d]) := Lib.hid (by rw [HST.out, if_pos rfl])
        go_wp2_with (at_builtin; refine wpList_push rfl _ _ rfl w.heap.size (.slice ao k ac) (ys.take k) (z + d) rfl wr rfl HA.out.1 wr.heap.size rfl rfl (by rw [HLK.out]; omega) HA.out.2.size ?_)
        intro v' w3 hr hg _
        obtain ⟨ao3, ac3, hv3, _⟩ := hr.ints
        rw [List.length_append, HLK.out, List.length_singleton] at hv3
        subst hv3
        have HB3 := Lib.hid ((HA.out.2.alloc HA.out.2.size _).grown hg (by have := HA.out.2.size; simp; omega) (fun q hq => (HA.out.1.blk q hq).1))
        have HR3 : Hid (RowN w3 w.heap.size (.slice ao3 (k + 1) ac3) (ys.take (k + 1))) := Lib.hid (by rw [HS2.out]; exact hr)
        clear hr hg
        go_wp2_with fail
        go_roundg (n - (k + 1))
        case measure => omega
        case rel => exact ⟨k + 1, by go_num, by omega, Nat.le_refl _, Lib.hid ⟨HR3.out, HB3.out⟩⟩
      · have hei : ((k : Int) == (at_ : Int)) = false := by simp; omega
        have HS2 : Hid (ys.take (k + 1) = ys.take k ++ [z]) := Lib.hid (by rw [HST.out, if_neg he])
        go_wp2_with (at_builtin; refine wpList_push rfl _ _ rfl w.heap.size (.slice ao k ac) (ys.take k) z rfl wr rfl HA.out.1 wr.heap.size rfl rfl (by rw [HLK.out]; omega) HA.out.2.size ?_)
        intro v' w3 hr hg _
        obtain ⟨ao3, ac3, hv3, _⟩ := hr.ints
        rw [List.length_append, HLK.out, List.length_singleton] at hv3
        subst hv3
        have HB3 := Lib.hid ((HA.out.2.alloc HA.out.2.size _).grown hg (by have := HA.out.2.size; simp; omega) (fun q hq => (HA.out.1.blk q hq).1))
        have HR3 : Hid (RowN w3 w.heap.size (.slice ao3 (k + 1) ac3) (ys.take (k + 1))) := Lib.hid (by rw [HS2.out]; exact hr)
        clear hr hg
        go_wp2_with fail
        go_roundg (n - (k + 1))
        case measure => omega
        case rel => exact ⟨k + 1, by go_num, by omega, Nat.le_refl _, Lib.hid ⟨HR3.out, HB3.out⟩⟩
    · obtain rfl : k = n := by omega
      have HF : Hid (ys.take k = ys) := Lib.hid (by rw [List.take_of_length_le (by rw [HAL.out]; exact Nat.le_refl _)])
      have HR : Hid (RowN wr w.heap.size (.slice ao k ac) ys) := Lib.hid (by have := HA.out.1; rwa [HF.out] at this)
      go_wp2_with fail
      go_ret
      exact ⟨_, rfl, HR.out, HA.out.2⟩
end Go.Proofs.Yteilaoiimlpbkaa
