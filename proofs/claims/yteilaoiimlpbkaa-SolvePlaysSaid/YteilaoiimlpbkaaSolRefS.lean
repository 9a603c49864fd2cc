/- The document's Share, and its Least. -/
import Derived.Test.YteilaoiimlpbkaaSolRef
import Derived.Test.YteilaoiimlpbkaaSolRefM
namespace Go.Proofs.Yteilaoiimlpbkaa
open Go.RowKit
attribute [local go_sem ↓ 10000] run_mn run_mx
theorem sum_take_le (zs : List Int) (h1 : ∀ x ∈ zs, 1 ≤ x) (t : Int) (h2 : zs.sum ≤ t) (k : Nat) : 0 ≤ (zs.take k).sum ∧ (zs.take k).sum ≤ t := by
  have ha := sl.sum_ge (zs.take k) (fun x hx => h1 x (List.mem_of_mem_take hx))
  have hb := sl.sum_ge (zs.drop k) (fun x hx => h1 x (List.mem_of_mem_drop hx))
  have hc : (zs.take k).sum + (zs.drop k).sum = zs.sum := by rw [← List.sum_append, List.take_append_drop]
  omega
theorem wants_sum_le (t : Int) (L : List sl.Sz) (he : sl.err t L = 0) : (sl.wants t L).sum ≤ 3200 := by
  obtain ⟨_, h1, hg, h2, _⟩ := sl.err_zero he
  have := sl.sum_le (sl.wants t L) 200 (fun x hx => by
    obtain ⟨s, h, rfl⟩ := List.mem_map.1 hx
    exact sl.want_le (hg s h) h1)
  rw [sl.wants_len] at this
  omega
/-- what the document's Share answers -/
def RShared (t : Int) (L : List sl.Sz) (w : World) (e : Ending) (w' : World) : Prop :=
  ∃ V, e = .returned (.tuple #[V, .int .i64 (sl.err t L)]) ∧ RowN w' w.heap.size V (sl.share t L) ∧ Below w.heap.size w w'
theorem rshared_bad {t : Int} {L : List sl.Sz} {w w' : World} {c : Int} (hc : sl.err t L = c) (h0 : c ≠ 0) (hb : Below w.heap.size w w') : RShared t L w (.returned (.tuple #[.slice none 0 0, .int .i64 c])) w' := by
  subst hc
  refine ⟨_, rfl, ?_, hb⟩
  rw [sl.share_bad t L h0]
  exact World.ownsRow_nil w' w.heap.size 3 1
theorem rshared_ok {t : Int} {L : List sl.Sz} {w w' : World} {V : Value} {out : List Int} (he : sl.err t L = 0) (hr : RowN w' w.heap.size V out) (ho : out = sl.lens t L) (hb : Below w.heap.size w w') : RShared t L w (.returned (.tuple #[V, .int .i64 0])) w' := by
  refine ⟨_, by rw [he], ?_, hb⟩
  rw [sl.share_ok t L he, ← ho]
  exact hr
theorem rown_base {w : World} {B B' : Nat} {v : Value} {zs : List Int} (h : RowN w B v zs) (hb : B' ≤ B) : RowN w B' v zs := own_base h hb
set_option maxHeartbeats 1600000 in
theorem refLeast_any (o : Option Addr) (n cap : Nat) (L : List sl.Sz) (w : World) (hs : SzIn w o n cap L) :
    Calls Try.prog 12 #[.slice o n cap] w fun e w' => e = .returned (.int .i64 (sl.least L)) ∧ Below w.heap.size w w' := by
  have hm : cap ≤ 9223372036854775807 := hs.max
  have hle := hs.le
  have HS := Lib.hid hs
  have HT : Hid (∀ k, k ≤ n → (k = n ∨ k = 16) → k ≤ 16 → sl.leastN L k = sl.least L) := Lib.hid (fun k hk hkk h16 => by
    unfold sl.leastN sl.least
    rcases hkk with h | h
    · rw [List.take_of_length_le (by rw [hs.len]; omega), List.take_of_length_le (by rw [hs.len]; omega)]
    · rw [h])
  have HR := Lib.hid (fun k n W => right_any k n W)
  clear hs
  generalize sl.least L = R at *
  go_enter Try.func12, Try.ntmps12
  go_wp2_with fail
  go_loopg [3, 4] 17 (fun gg s3 s4 wr => ∃ (k : Nat) (x : Int), s4 = .int .i64 k ∧ s3 = .int .i64 x ∧ k ≤ n ∧ k ≤ 16 ∧ 17 - k ≤ gg ∧ 0 ≤ x ∧ x ≤ 200 * k ∧ Hid (x = sl.leastN L k ∧ Below w.heap.size w wr))
  case atStart => exact ⟨0, 0, rfl, rfl, Nat.zero_le _, Nat.zero_le _, by omega, by omega, by omega, Lib.hid ⟨rfl, Below.refl _ _⟩⟩
  case round =>
    obtain ⟨k, x, rfl, rfl, hk, hk16, hgg, hx1, hx2, HA⟩ := hrel
    by_cases hlt : k < n
    · have hki : (k : Int) < (n : Int) := by omega
      by_cases hlt2 : k < 16
      · obtain ⟨b, off, rfl, hb, k0, k1⟩ := (HS.out.below HA.out.2).cell hlt
        have hkl : k < L.length := by rw [HS.out.len]; exact hlt
        have hst := sl.leastN_snoc L k hkl
        have hl1 := sl.least1_good (s := L.getD k sl.z0)
        rw [← HA.out.1] at hst
        generalize L.getD k sl.z0 = s at *
        obtain ⟨sk, sn⟩ := s
        have HD : Hid (sl.least1 ⟨sk, sn⟩ = if sk = 1 ∧ sl.good ⟨sk, sn⟩ = true then sn else 1) := Lib.hid rfl
        have HW := Lib.hid (fun W => HR.out sk sn W)
        generalize sl.least1 ⟨sk, sn⟩ = y at *
        generalize sl.good ⟨sk, sn⟩ = G at *
        have HST := Lib.hid hst
        clear hst hkl
        have hki2 : (k : Int) < 16 := by omega
        dsimp only at k0 k1
        by_cases h1 : sk = 1
        · subst h1
          cases G
          · have hy : y = 1 := by rw [HD.out]; simp
            subst hy
            go_wp2_with fail
            refine (HW.out _).mono ?_
            rintro e w2 ⟨rfl, hb2⟩
            have HB2 := Lib.hid (HA.out.2.trans (hb2.mono HA.out.2.size))
            clear hb2
            go_wp2_with fail
            go_roundg (17 - (k + 1))
            case measure => omega
            case rel => exact ⟨k + 1, x + 1, by go_num, rfl, by omega, by omega, Nat.le_refl _, by omega, by omega, Lib.hid ⟨HST.out.symm, HB2.out⟩⟩
          · have hy : y = sn := by rw [HD.out]; simp
            subst hy
            go_wp2_with fail
            refine (HW.out _).mono ?_
            rintro e w2 ⟨rfl, hb2⟩
            have HB2 := Lib.hid (HA.out.2.trans (hb2.mono HA.out.2.size))
            have k1' := (hb2.cell (p := ⟨b, off + k * 2 + 1, none⟩) hb).trans k1
            clear hb2
            go_wp2_with fail
            go_roundg (17 - (k + 1))
            case measure => omega
            case rel => exact ⟨k + 1, x + y, by go_num, rfl, by omega, by omega, Nat.le_refl _, by omega, by omega, Lib.hid ⟨HST.out.symm, HB2.out⟩⟩
        · have e1 : (sk == 1) = false := by simpa using h1
          have hy : y = 1 := by rw [HD.out]; simp [h1]
          subst hy
          go_wp2_with fail
          go_roundg (17 - (k + 1))
          case measure => omega
          case rel => exact ⟨k + 1, x + 1, by go_num, rfl, by omega, by omega, Nat.le_refl _, by omega, by omega, Lib.hid ⟨HST.out.symm, HA.out.2⟩⟩
      · obtain rfl : k = 16 := by omega
        have HF := Lib.hid (HT.out 16 hk (.inr rfl) (Nat.le_refl _))
        go_wp2_with fail
        go_ret
        exact ⟨ret_int (by rw [← HF.out, HA.out.1]), HA.out.2⟩
    · obtain rfl : k = n := by omega
      have HF := Lib.hid (HT.out k (Nat.le_refl _) (.inl rfl) hk16)
      go_wp2_with fail
      go_ret
      exact ⟨ret_int (by rw [← HF.out, HA.out.1]), HA.out.2⟩
end Go.Proofs.Yteilaoiimlpbkaa
