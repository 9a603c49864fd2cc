/- Bytes: the bytes of runes. -/
import Derived.Test.YtknkmfofjbpdbaaDoorGlEnc
import Derived.Test.YtknkmfofjbpdbaaDoorTotal
namespace Go.Proofs.YtknkmfofjbpdbaaDoor
open Go.RowKit

set_option maxRecDepth 100000 in
set_option maxHeartbeats 1600000 in
/-- Bytes -/
theorem bytes_any (o : Option Addr) (n cap : Nat) (zs : List Int) (w : World) (hz : SliceN w o n cap zs) (hn : n ≤ 1099511627776) :
    Calls Tryd.prog 19 #[.slice o n cap] w fun e w' => ∃ ro m rc, e = .returned (.slice ro m rc) ∧ Own w' w.heap.size 5 .u8 ro m rc (u8s (encs zs)) ∧ Below w.heap.size w w' := by
  have hmx : cap ≤ 9223372036854775807 := hz.max
  have hle := hz.le
  have HZ := Lib.hid hz; clear hz
  go_enter Tryd.func19, Tryd.ntmps19
  go_wp2_with fail
  go_loopg [3, 8] n (fun gg s3 s8 wr => ∃ (k m : Nat) (ro : Option Addr) (rc : Nat), s8 = .int .i64 k ∧ s3 = .slice ro m rc ∧ k ≤ n ∧ n - k ≤ gg ∧ m ≤ 4 * k ∧ Hid (Own wr w.heap.size 5 .u8 ro m rc (u8s (encs (zs.take k)))) ∧ Hid (Below w.heap.size w wr))
  case atStart => exact ⟨0, 0, none, 0, rfl, rfl, Nat.zero_le _, by omega, by omega, Lib.hid (Own.nil _ _ _ _), Lib.hid (Below.refl _ _)⟩
  case round =>
    obtain ⟨k, m, ro, rc, rfl, rfl, hk, hgg, hm4, HO, HB⟩ := hrel
    by_cases hlt : k < n
    · have hbw : Below w.heap.size w wr := HB.out
      obtain ⟨b, off, rfl, hb, k0⟩ := (HZ.out.below hbw (Nat.le_refl _)).one (k := k) hlt
      have hlz : k < zs.length := by rw [HZ.out.len]; exact hlt
      have hts := take_snoc zs k hlz
      have h32 := HZ.out.i32 (zs.getD k 0) (by simp [List.getD, hlz])
      generalize zs.getD k 0 = z at *
      have HC := Lib.hid (appendRune_any w.heap.size ro m rc (u8s (encs (zs.take k))) z h32.1 h32.2 wr HO.out (by omega) hbw.size)
      have hl4 := Lib.encodeRuneZ_length z
      have hen : u8s (encs (zs.take (k + 1))) = u8s (encs (zs.take k)) ++ Lib.encodeRuneZ z := by rw [hts, encs_snoc, u8s_append, u8s_enc]
      have HE := Lib.hid hen
      generalize Lib.encodeRuneZ z = E at *
      generalize E.length = q at *
      clear hbw hts h32 hen
      go_wp2_with fail
      refine HC.out.mono ?_
      rintro e w2 ⟨o', cap', rfl, h2, hb2⟩
      have HO2 : Hid (Own w2 w.heap.size 5 .u8 o' (m + q) cap' (u8s (encs (zs.take (k + 1))))) := Lib.hid (by rw [HE.out]; exact h2)
      have HB2 := Lib.hid (HB.out.trans hb2)
      clear h2 hb2 k0 hb
      go_wp2_with fail
      go_roundg (n - (k + 1))
      case measure => omega
      case rel => exact ⟨k + 1, m + q, o', cap', by go_num, rfl, by omega, Nat.le_refl _, by omega, HO2, HB2⟩
    · obtain rfl : k = n := by omega
      have e : zs.take k = zs := List.take_of_length_le (by rw [HZ.out.len]; exact Nat.le_refl _)
      have hO := HO.out
      rw [e] at hO
      have HO2 := Lib.hid hO
      clear hO e
      go_wp2_with fail
      go_ret
      exact ⟨ro, m, rc, rfl, HO2.out, HB.out⟩
end Go.Proofs.YtknkmfofjbpdbaaDoor
