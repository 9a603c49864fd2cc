/- The document's Bytes. -/
import Derived.Test.YtknkmfofjbpdbaaDoorGlBytes
import Derived.Test.YtknkmfofjbpdbaaDoorGlRefCut
import Derived.Laws.BitsLemmas
namespace Go.Proofs.YtknkmfofjbpdbaaDoor
open Go.RowKit

theorem i32_and63 (n : Int) : bits .and .i32 n 63 = n % 64 := by
  have h7 : (BitVec.ofInt 32 63).toNat = 2 ^ 6 - 1 := by decide
  have key : (BitVec.ofInt 32 n &&& BitVec.ofInt 32 63).toNat = (n % ((2 ^ 32 : Nat) : Int)).toNat % 2 ^ 6 := by
    rw [BitVec.toNat_and, BitVec.toNat_ofInt, h7, Nat.and_two_pow_sub_one_eq_mod]
  show IntKind.i32.wrap ((BitVec.ofInt 32 n &&& BitVec.ofInt 32 63).toNat : Nat) = n % 64
  rw [key, IntKind.wrap_i32]
  omega
set_option maxRecDepth 100000 in
set_option maxHeartbeats 3200000 in
theorem refBytes_any (o : Option Addr) (n cap : Nat) (zs : List Int) (w : World) (hz : SliceN w o n cap zs) (hn : n ≤ 1099511627776) :
    Calls Tryd.prog 21 #[.slice o n cap] w fun e w' => ∃ ro m rc, e = .returned (.slice ro m rc) ∧ Own w' w.heap.size 5 .u8 ro m rc (u8s (encs zs)) ∧ Below w.heap.size w w' := by
  obtain ⟨i0, hi, hz0, hz1, hz2⟩ := info_parts infoB
  have hmx : cap ≤ 9223372036854775807 := hz.max
  have hle := hz.le
  have HZ := Lib.hid hz; clear hz
  have HO0 := Lib.hid (own_made0 (w := w) (B := w.heap.size) 0 #[] (Nat.le_refl _) (by unfold maxLen; omega) rfl 5 .u8)
  have HB0 := Lib.hid ((Below.refl w.heap.size w).alloc (Nat.le_refl _) (.cells #[] 5))
  go_enter Tryd.func21, Tryd.ntmps21
  go_wp2_with fail
  go_loopg [3, 4] n (fun gg s3 s4 wr => ∃ (k m : Nat) (ro : Option Addr) (rc : Nat), s4 = .int .i64 k ∧ s3 = .slice ro m rc ∧ k ≤ n ∧ n - k ≤ gg ∧ m ≤ 4 * k ∧ Hid (Own wr w.heap.size 5 .u8 ro m rc (u8s (encs (zs.take k)))) ∧ Hid (Below w.heap.size w wr))
  case atStart => exact ⟨0, 0, _, 0, rfl, rfl, Nat.zero_le _, by omega, by omega, HO0, HB0⟩
  case round =>
    clear HO0 HB0
    obtain ⟨k, m, ro, rc, rfl, rfl, hk, hgg, hm4, HO, HB⟩ := hrel
    by_cases hlt : k < n
    · have hbw : Below w.heap.size w wr := HB.out
      obtain ⟨b, off, rfl, hb, k0⟩ := (HZ.out.below hbw (Nat.le_refl _)).one (k := k) hlt
      have hlz : k < zs.length := by rw [HZ.out.len]; exact hlt
      have hts := take_snoc zs k hlz
      have h32 := HZ.out.i32 (zs.getD k 0) (by simp [List.getD, hlz])
      have HI := Lib.hid (fun W => refIsRune_any (zs.getD k 0) W)
      have hen : u8s (encs (zs.take (k + 1))) = u8s (encs (zs.take k)) ++ Lib.encodeRuneZ (zs.getD k 0) := by rw [hts, encs_snoc, u8s_append, u8s_enc]
      generalize zs.getD k 0 = z at *
      generalize u8s (encs (zs.take k)) = xs at *
      obtain ⟨h32a, h32b⟩ := h32
      have hsr : w.heap.size ≤ wr.heap.size := hbw.size
      clear hts hbw
      by_cases hc1 : 0 ≤ z ∧ z ≤ 127
      · rw [show isR z = true by unfold isR; simp; omega] at HI
        rw [Lib.encodeRuneZ_one hc1.1 hc1.2] at hen
        have HEN := Lib.hid hen
        clear hen
        obtain ⟨hca, hcb⟩ := hc1
        have b0 := i32_and63 z
        have b1 := i32_and63 (z / 64)
        have b2 := i32_and63 (z / 4096)
        go_wp2_with fail
        refine (HI.out _).mono ?_
        rintro e w2 ⟨rfl, rfl⟩
        go_wp2_with (at_builtin; refine wpList_append_nums (K := .u8) rfl _ _ 22 rfl w.heap.size 5 i0 (Value.int .u8 0) 1 Tryd.underlying22 hi hz0 hz1 hz2 (by decide) rfl (.slice ro m rc) m xs rfl ?a1 (some ⟨wr.heap.size, 0, none⟩) 1 1 [z] rfl ?a0 ?a2 ?a3 ?_)
        case a1 => exact HO.out.row.alloc _
        case a0 => exact Nums.new wr _ [z] (by simp)
        case a2 => omega
        case a3 => simp; omega
        intro v' w3 hr3 hg3 _
        obtain ⟨ro', rc', rfl, hO3⟩ := Own.of (K := .u8) (xs := xs ++ [z]) (by simpa [cs] using hr3)
        have HO3 : Hid (Own w3 w.heap.size 5 .u8 ro' (m + 1) rc' (u8s (encs (zs.take (k + 1))))) := Lib.hid (by rw [HEN.out]; exact hO3)
        have HB3 := Lib.hid ((HB.out.alloc hsr _).trans (grown_below hg3 (HO.out.row.alloc _) (by simp; omega)))
        clear hr3 hg3 hO3
        go_wp2_with fail
        go_roundg (n - (k + 1))
        case measure => omega
        case rel => exact ⟨k + 1, m + 1, ro', rc', by go_num, rfl, by omega, Nat.le_refl _, by omega, HO3, HB3⟩
      by_cases hc2 : 128 ≤ z ∧ z ≤ 2047
      · rw [show isR z = true by unfold isR; simp; omega] at HI
        rw [Lib.encodeRuneZ_two hc2.1 hc2.2] at hen
        have HEN := Lib.hid hen
        clear hen
        obtain ⟨hca, hcb⟩ := hc2
        have b0 := i32_and63 z
        have b1 := i32_and63 (z / 64)
        have b2 := i32_and63 (z / 4096)
        go_wp2_with fail
        refine (HI.out _).mono ?_
        rintro e w2 ⟨rfl, rfl⟩
        go_wp2_with (at_builtin; refine wpList_append_nums (K := .u8) rfl _ _ 22 rfl w.heap.size 5 i0 (Value.int .u8 0) 1 Tryd.underlying22 hi hz0 hz1 hz2 (by decide) rfl (.slice ro m rc) m xs rfl ?b1 (some ⟨wr.heap.size, 0, none⟩) 2 2 [192 + z / 64, 128 + z % 64] rfl ?b0 ?b2 ?b3 ?_)
        case b1 => exact HO.out.row.alloc _
        case b0 => exact Nums.new wr _ [192 + z / 64, 128 + z % 64] (by simp)
        case b2 => omega
        case b3 => simp; omega
        intro v' w3 hr3 hg3 _
        obtain ⟨ro', rc', rfl, hO3⟩ := Own.of (K := .u8) (xs := xs ++ [192 + z / 64, 128 + z % 64]) (by simpa [cs] using hr3)
        have HO3 : Hid (Own w3 w.heap.size 5 .u8 ro' (m + 2) rc' (u8s (encs (zs.take (k + 1))))) := Lib.hid (by rw [HEN.out]; exact hO3)
        have HB3 := Lib.hid ((HB.out.alloc hsr _).trans (grown_below hg3 (HO.out.row.alloc _) (by simp; omega)))
        clear hr3 hg3 hO3
        go_wp2_with fail
        go_roundg (n - (k + 1))
        case measure => omega
        case rel => exact ⟨k + 1, m + 2, ro', rc', by go_num, rfl, by omega, Nat.le_refl _, by omega, HO3, HB3⟩
      by_cases hc3 : 2048 ≤ z ∧ z < 55296
      · rw [show isR z = true by unfold isR; simp; omega] at HI
        rw [Lib.encodeRuneZ_three (.inl hc3)] at hen
        have HEN := Lib.hid hen
        clear hen
        obtain ⟨hca, hcb⟩ := hc3
        have b0 := i32_and63 z
        have b1 := i32_and63 (z / 64)
        have b2 := i32_and63 (z / 4096)
        go_wp2_with fail
        refine (HI.out _).mono ?_
        rintro e w2 ⟨rfl, rfl⟩
        go_wp2_with (at_builtin; refine wpList_append_nums (K := .u8) rfl _ _ 22 rfl w.heap.size 5 i0 (Value.int .u8 0) 1 Tryd.underlying22 hi hz0 hz1 hz2 (by decide) rfl (.slice ro m rc) m xs rfl ?c1 (some ⟨wr.heap.size, 0, none⟩) 3 3 [224 + z / 4096, 128 + z / 64 % 64, 128 + z % 64] rfl ?c0 ?c2 ?c3 ?_)
        case c1 => exact HO.out.row.alloc _
        case c0 => exact Nums.new wr _ [224 + z / 4096, 128 + z / 64 % 64, 128 + z % 64] (by simp)
        case c2 => omega
        case c3 => simp; omega
        intro v' w3 hr3 hg3 _
        obtain ⟨ro', rc', rfl, hO3⟩ := Own.of (K := .u8) (xs := xs ++ [224 + z / 4096, 128 + z / 64 % 64, 128 + z % 64]) (by simpa [cs] using hr3)
        have HO3 : Hid (Own w3 w.heap.size 5 .u8 ro' (m + 3) rc' (u8s (encs (zs.take (k + 1))))) := Lib.hid (by rw [HEN.out]; exact hO3)
        have HB3 := Lib.hid ((HB.out.alloc hsr _).trans (grown_below hg3 (HO.out.row.alloc _) (by simp; omega)))
        clear hr3 hg3 hO3
        go_wp2_with fail
        go_roundg (n - (k + 1))
        case measure => omega
        case rel => exact ⟨k + 1, m + 3, ro', rc', by go_num, rfl, by omega, Nat.le_refl _, by omega, HO3, HB3⟩
      by_cases hc4 : 57343 < z ∧ z ≤ 65535
      · rw [show isR z = true by unfold isR; simp; omega] at HI
        rw [Lib.encodeRuneZ_three (.inr hc4)] at hen
        have HEN := Lib.hid hen
        clear hen
        obtain ⟨hca, hcb⟩ := hc4
        have b0 := i32_and63 z
        have b1 := i32_and63 (z / 64)
        have b2 := i32_and63 (z / 4096)
        go_wp2_with fail
        refine (HI.out _).mono ?_
        rintro e w2 ⟨rfl, rfl⟩
        go_wp2_with (at_builtin; refine wpList_append_nums (K := .u8) rfl _ _ 22 rfl w.heap.size 5 i0 (Value.int .u8 0) 1 Tryd.underlying22 hi hz0 hz1 hz2 (by decide) rfl (.slice ro m rc) m xs rfl ?d1 (some ⟨wr.heap.size, 0, none⟩) 3 3 [224 + z / 4096, 128 + z / 64 % 64, 128 + z % 64] rfl ?d0 ?d2 ?d3 ?_)
        case d1 => exact HO.out.row.alloc _
        case d0 => exact Nums.new wr _ [224 + z / 4096, 128 + z / 64 % 64, 128 + z % 64] (by simp)
        case d2 => omega
        case d3 => simp; omega
        intro v' w3 hr3 hg3 _
        obtain ⟨ro', rc', rfl, hO3⟩ := Own.of (K := .u8) (xs := xs ++ [224 + z / 4096, 128 + z / 64 % 64, 128 + z % 64]) (by simpa [cs] using hr3)
        have HO3 : Hid (Own w3 w.heap.size 5 .u8 ro' (m + 3) rc' (u8s (encs (zs.take (k + 1))))) := Lib.hid (by rw [HEN.out]; exact hO3)
        have HB3 := Lib.hid ((HB.out.alloc hsr _).trans (grown_below hg3 (HO.out.row.alloc _) (by simp; omega)))
        clear hr3 hg3 hO3
        go_wp2_with fail
        go_roundg (n - (k + 1))
        case measure => omega
        case rel => exact ⟨k + 1, m + 3, ro', rc', by go_num, rfl, by omega, Nat.le_refl _, by omega, HO3, HB3⟩
      by_cases hc5 : 65536 ≤ z ∧ z ≤ 1114111
      · rw [show isR z = true by unfold isR; simp; omega] at HI
        rw [Lib.encodeRuneZ_four hc5.1 hc5.2] at hen
        have HEN := Lib.hid hen
        clear hen
        obtain ⟨hca, hcb⟩ := hc5
        have b0 := i32_and63 z
        have b1 := i32_and63 (z / 64)
        have b2 := i32_and63 (z / 4096)
        go_wp2_with fail
        refine (HI.out _).mono ?_
        rintro e w2 ⟨rfl, rfl⟩
        go_wp2_with (at_builtin; refine wpList_append_nums (K := .u8) rfl _ _ 22 rfl w.heap.size 5 i0 (Value.int .u8 0) 1 Tryd.underlying22 hi hz0 hz1 hz2 (by decide) rfl (.slice ro m rc) m xs rfl ?e1 (some ⟨wr.heap.size, 0, none⟩) 4 4 [240 + z / 262144, 128 + z / 4096 % 64, 128 + z / 64 % 64, 128 + z % 64] rfl ?e0 ?e2 ?e3 ?_)
        case e1 => exact HO.out.row.alloc _
        case e0 => exact Nums.new wr _ [240 + z / 262144, 128 + z / 4096 % 64, 128 + z / 64 % 64, 128 + z % 64] (by simp)
        case e2 => omega
        case e3 => simp; omega
        intro v' w3 hr3 hg3 _
        obtain ⟨ro', rc', rfl, hO3⟩ := Own.of (K := .u8) (xs := xs ++ [240 + z / 262144, 128 + z / 4096 % 64, 128 + z / 64 % 64, 128 + z % 64]) (by simpa [cs] using hr3)
        have HO3 : Hid (Own w3 w.heap.size 5 .u8 ro' (m + 4) rc' (u8s (encs (zs.take (k + 1))))) := Lib.hid (by rw [HEN.out]; exact hO3)
        have HB3 := Lib.hid ((HB.out.alloc hsr _).trans (grown_below hg3 (HO.out.row.alloc _) (by simp; omega)))
        clear hr3 hg3 hO3
        go_wp2_with fail
        go_roundg (n - (k + 1))
        case measure => omega
        case rel => exact ⟨k + 1, m + 4, ro', rc', by go_num, rfl, by omega, Nat.le_refl _, by omega, HO3, HB3⟩
      · rw [show isR z = false by unfold isR; simp; omega] at HI
        rw [Lib.encodeRuneZ_bad (by omega)] at hen
        have HEN := Lib.hid hen
        clear hen
        have b0 := i32_and63 z
        have b1 := i32_and63 (z / 64)
        have b2 := i32_and63 (z / 4096)
        go_wp2_with fail
        refine (HI.out _).mono ?_
        rintro e w2 ⟨rfl, rfl⟩
        go_wp2_with (at_builtin; refine wpList_append_nums (K := .u8) rfl _ _ 22 rfl w.heap.size 5 i0 (Value.int .u8 0) 1 Tryd.underlying22 hi hz0 hz1 hz2 (by decide) rfl (.slice ro m rc) m xs rfl ?f1 (some ⟨wr.heap.size, 0, none⟩) 3 3 [239, 191, 189] rfl ?f0 ?f2 ?f3 ?_)
        case f1 => exact HO.out.row.alloc _
        case f0 => exact Nums.new wr _ [239, 191, 189] (by simp)
        case f2 => omega
        case f3 => simp; omega
        intro v' w3 hr3 hg3 _
        obtain ⟨ro', rc', rfl, hO3⟩ := Own.of (K := .u8) (xs := xs ++ [239, 191, 189]) (by simpa [cs] using hr3)
        have HO3 : Hid (Own w3 w.heap.size 5 .u8 ro' (m + 3) rc' (u8s (encs (zs.take (k + 1))))) := Lib.hid (by rw [HEN.out]; exact hO3)
        have HB3 := Lib.hid ((HB.out.alloc hsr _).trans (grown_below hg3 (HO.out.row.alloc _) (by simp; omega)))
        clear hr3 hg3 hO3
        go_wp2_with fail
        go_roundg (n - (k + 1))
        case measure => omega
        case rel => exact ⟨k + 1, m + 3, ro', rc', by go_num, rfl, by omega, Nat.le_refl _, by omega, HO3, HB3⟩
    · obtain rfl : k = n := by omega
      have e : zs.take k = zs := List.take_of_length_le (by rw [HZ.out.len]; exact Nat.le_refl _)
      have hO := HO.out
      rw [e] at hO
      have HO2 := Lib.hid hO
      clear hO e
      go_wp2_with fail
      go_ret
      exact ⟨ro, m, rc, rfl, HO2.out, HB.out⟩
end Go.Proofs.YtknkmfofjbpdbaaDoor
