/- The document's Decimal, at any number. -/
import Derived.Test.YteilaoiimlpbkabDoorTkMakesM
import Derived.Laws.Concat
namespace Go.Proofs.YteilaoiimlpbkabDoor
open Go.RowKit
theorem tk.addr0 (a : Addr) : a.add 0 = a := by unfold Addr.add; split <;> simp_all
theorem str_one0 (w : World) (b : UInt8) : (convert 34 9 (.slice (some ⟨w.heap.size, 0, none⟩) 1 1)).run Tryd.prog (w.alloc (.cells #[.int .u8 b.toNat] 5)) = .ok (.string ⟨#[b]⟩) (w.alloc (.cells #[.int .u8 b.toNat] 5)) :=
  run_convert_bytes_back (P := Tryd.prog) (w.alloc (.cells #[.int .u8 b.toNat] 5)) 34 9 5 ⟨w.heap.size, 0, none⟩ 1 [b] Tryd.underlying34 Tryd.underlying5 Tryd.underlying9 (fun j hj => by
    obtain rfl : j = 0 := by simpa using hj
    rw [tk.addr0]
    exact cell_of_heap (heap_alloc_new w _))
/-- what is left of a number -/
def tk.tailD (m : Nat) : List UInt8 := if m = 0 then [] else Lib.decDigits m
theorem tk.tailD_step (m : Nat) (h : m ≠ 0) : tk.tailD m = tk.tailD (m / 10) ++ [UInt8.ofNat (48 + m % 10)] := by
  unfold tk.tailD
  rw [if_neg h, Lib.decDigits]
  split
  · rename_i h10
    rw [if_pos (by omega), show m % 10 = m by omega]
    rfl
  · rename_i h10
    rw [if_neg (by omega)]
theorem tk.tailD_len (u : Nat) (hu : u ≤ 9223372036854775808) : (tk.tailD u).length ≤ 21 := by
  unfold tk.tailD
  split
  · simp
  · rename_i h
    have := Lib.itoa_length_le (-(u : Int)) (by omega) (by omega)
    rw [Lib.itoa_neg u (by omega), List.length_cons] at this
    omega
set_option maxRecDepth 100000 in
set_option maxHeartbeats 1600000 in
theorem decimal_pos (n : Nat) (hn : n ≤ 9223372036854775807) (w : World) :
    Calls Tryd.prog 9 #[.int .i64 n] w fun e w' => e = .returned (str (Lib.decDigits n)) ∧ Below w.heap.size w w' := by
  by_cases h0 : n = 0
  · subst h0
    go_enter Tryd.func9, Tryd.ntmps9
    go_wp2_with fail
    go_ret
    exact ⟨by rw [Lib.decDigits, dif_pos (by omega)]; rfl, Below.refl _ _⟩
  · have e0 : ((n : Int) == 0) = false := by simp; omega
    have e1 : ¬ (n : Int) < 0 := by omega
    have HD : Hid (tk.tailD n = Lib.decDigits n) := Lib.hid (by unfold tk.tailD; rw [if_neg h0])
    have HL := Lib.hid (tk.tailD_len n (by omega))
    clear h0
    go_enter Tryd.func9, Tryd.ntmps9
    go_wp2_with fail
    go_loopg [0, 4] n (fun gg s0 s4 wr => ∃ (m : Nat) (out : List UInt8), s0 = .int .i64 m ∧ s4 = .string ⟨out.toArray⟩ ∧ m ≤ gg ∧ m ≤ n ∧ Hid (tk.tailD m ++ out = tk.tailD n) ∧ Hid (Below w.heap.size w wr))
    case atStart => exact ⟨n, [], rfl, rfl, Nat.le_refl _, Nat.le_refl _, Lib.hid (by simp), Lib.hid (Below.refl _ _)⟩
    case round =>
      obtain ⟨m, out, rfl, rfl, hgg, hmn, HT, HB⟩ := hrel
      by_cases hm : m = 0
      · subst hm
        have HE : Hid (out = tk.tailD n) := Lib.hid (by have := HT.out; simpa [tk.tailD] using this)
        go_wp2_with fail
        go_ret
        exact ⟨by rw [HE.out, HD.out]; rfl, HB.out⟩
      · have b0 : ((m : Int) == 0) = false := by simp; omega
        have b1 : ((m : Int) != 0) = true := by simp; omega
        have hmod : Int.tmod (m : Int) 10 = ((m % 10 : Nat) : Int) := by rw [Int.tmod_eq_emod_of_nonneg (by omega)]; rfl
        have hdiv : Int.tdiv (m : Int) 10 = ((m / 10 : Nat) : Int) := by rw [Int.tdiv_eq_ediv_of_nonneg (by omega)]; rfl
        have hlt : m / 10 < m := Nat.div_lt_self (by omega) (by omega)
        have hd : m % 10 < 10 := Nat.mod_lt _ (by omega)
        have HS := Lib.hid (tk.tailD_step m hm)
        have hol : out.length ≤ 21 := by
          have h1 := congrArg List.length HT.out
          rw [List.length_append] at h1
          have := HL.out
          omega
        generalize m % 10 = d at *
        generalize m / 10 = q at *
        have hdi : ¬ (d : Int) < 0 := by omega
        have hc := tk.dig_nat d hd
        generalize UInt8.ofNat (48 + d) = c at *
        have kc := str_one0 wr c
        rw [show ((c.toNat : Nat) : Int) = 48 + (d : Int) by omega] at kc
        have kb : ¬ 9223372036854775807 < 1 + out.length := by omega
        have kb' : out.length < 9223372036854775807 := by omega
        have hI1 : (ByteArray.mk #[c] ++ ByteArray.mk out.toArray) = ByteArray.mk (c :: out).toArray := ByteArray.mk_append_mk [c] out
        have HI1 := Lib.hid hI1
        have HB2 := Lib.hid (HB.out.alloc HB.out.size (.cells #[.int .u8 (48 + (d : Int))] 5))
        have HT2 : Hid (tk.tailD q ++ (c :: out) = tk.tailD n) := Lib.hid (by rw [← HT.out, HS.out]; simp)
        clear hI1 hc
        go_wp2_with fail
        go_roundg q
        case measure => omega
        case rel => exact ⟨q, c :: out, rfl, by rw [← HI1.out], Nat.le_refl _, by omega, HT2, HB2⟩
set_option maxRecDepth 100000 in
set_option maxHeartbeats 1600000 in
theorem decimal_neg (n : Nat) (h1 : 1 ≤ n) (hn : n ≤ 9223372036854775808) (w : World) :
    Calls Tryd.prog 9 #[.int .i64 (-(n : Int))] w fun e w' => e = .returned (str (45 :: Lib.decDigits n)) ∧ Below w.heap.size w w' := by
  have e0 : ((-(n : Int)) == 0) = false := by simp; omega
  have e1 : -(n : Int) < 0 := by omega
  have e2 : 0 < n := by omega
  have HD : Hid (tk.tailD n = Lib.decDigits n) := Lib.hid (by unfold tk.tailD; rw [if_neg (by omega)])
  have HL := Lib.hid (tk.tailD_len n (by omega))
  go_enter Tryd.func9, Tryd.ntmps9
  go_wp2_with fail
  go_loopg [0, 4] n (fun gg s0 s4 wr => ∃ (m : Nat) (out : List UInt8), s0 = .int .i64 (-(m : Int)) ∧ s4 = .string ⟨out.toArray⟩ ∧ m ≤ gg ∧ m ≤ n ∧ Hid (tk.tailD m ++ out = tk.tailD n) ∧ Hid (Below w.heap.size w wr))
  case atStart => exact ⟨n, [], rfl, rfl, Nat.le_refl _, Nat.le_refl _, Lib.hid (by simp), Lib.hid (Below.refl _ _)⟩
  case round =>
    obtain ⟨m, out, rfl, rfl, hgg, hmn, HT, HB⟩ := hrel
    have hol : out.length ≤ 21 := by
      have h1 := congrArg List.length HT.out
      rw [List.length_append] at h1
      have := HL.out
      omega
    have kb : ¬ 9223372036854775807 < 1 + out.length := by omega
    have kb' : out.length < 9223372036854775807 := by omega
    by_cases hm : m = 0
    · subst hm
      have HE : Hid (out = tk.tailD n) := Lib.hid (by have := HT.out; simpa [tk.tailD] using this)
      have hI0 : (ByteArray.mk #[45] ++ ByteArray.mk out.toArray) = ByteArray.mk (45 :: out).toArray := ByteArray.mk_append_mk [45] out
      go_wp2_with fail
      go_ret
      refine ⟨?_, HB.out⟩
      rw [← HD.out, ← HE.out]; rfl
    · have b0 : ((-(m : Int)) == 0) = false := by simp; omega
      have b1 : ((-(m : Int)) != 0) = true := by simp; omega
      have hmod : Int.tmod (-(m : Int)) 10 = -((m % 10 : Nat) : Int) := by rw [Int.neg_tmod, Int.tmod_eq_emod_of_nonneg (by omega)]; rfl
      have hdiv : Int.tdiv (-(m : Int)) 10 = -((m / 10 : Nat) : Int) := by rw [Int.neg_tdiv, Int.tdiv_eq_ediv_of_nonneg (by omega)]; rfl
      have hlt : m / 10 < m := Nat.div_lt_self (by omega) (by omega)
      have hd : m % 10 < 10 := Nat.mod_lt _ (by omega)
      have HS := Lib.hid (tk.tailD_step m hm)
      generalize m % 10 = d at *
      generalize m / 10 = q at *
      have hc := tk.dig_nat d hd
      generalize UInt8.ofNat (48 + d) = c at *
      have kc := str_one0 wr c
      rw [show ((c.toNat : Nat) : Int) = 48 + (d : Int) by omega] at kc
      have hI1 : (ByteArray.mk #[c] ++ ByteArray.mk out.toArray) = ByteArray.mk (c :: out).toArray := ByteArray.mk_append_mk [c] out
      have HI1 := Lib.hid hI1
      have HB2 := Lib.hid (HB.out.alloc HB.out.size (.cells #[.int .u8 (48 + (d : Int))] 5))
      have HT2 : Hid (tk.tailD q ++ (c :: out) = tk.tailD n) := Lib.hid (by rw [← HT.out, HS.out]; simp)
      clear hI1 hc
      by_cases hd0 : d = 0
      · subst hd0
        rw [show (48 : Int) + ((0 : Nat) : Int) = 48 from rfl] at kc HB2
        go_wp2_with fail
        go_roundg q
        case measure => omega
        case rel => exact ⟨q, c :: out, by go_num, by rw [← HI1.out], Nat.le_refl _, by omega, HT2, HB2⟩
      · have hdi : -(d : Int) < 0 := by omega
        have hdp : 0 < d := by omega
        go_wp2_with fail
        go_roundg q
        case measure => omega
        case rel => exact ⟨q, c :: out, by go_num, by rw [← HI1.out], Nat.le_refl _, by omega, HT2, HB2⟩
theorem decimal_any (n : Int) (h0 : -9223372036854775808 ≤ n) (h1 : n ≤ 9223372036854775807) (w : World) :
    Calls Tryd.prog 9 #[.int .i64 n] w fun e w' => e = .returned (str (Lib.itoa n)) ∧ Below w.heap.size w w' := by
  by_cases hn : n < 0
  · have := decimal_neg n.natAbs (by omega) (by omega) w
    rw [show -((n.natAbs : Nat) : Int) = n by omega] at this
    unfold Lib.itoa
    rw [if_pos hn]
    exact this
  · have := decimal_pos n.toNat (by omega) w
    rw [show ((n.toNat : Nat) : Int) = n by omega] at this
    unfold Lib.itoa
    rw [if_neg hn]
    exact this
end Go.Proofs.YteilaoiimlpbkabDoor
