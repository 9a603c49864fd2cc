/- Parts of slices, and numbers under a mask. -/
import Derived.Test.YtgkodjkhhmcnnaaDoorGlLit
import Derived.Laws.BitsLemmas
namespace Go.Proofs.YtgkodjkhhmcnnaaDoor
open Go.RowKit

theorem i64_and15 (n : Int) : bits .and .i64 n 15 = n % 16 := by
  have h15 : (BitVec.ofInt 64 15).toNat = 2 ^ 4 - 1 := by decide
  have key : (BitVec.ofInt 64 n &&& BitVec.ofInt 64 15).toNat = (n % ((2 ^ 64 : Nat) : Int)).toNat % 2 ^ 4 := by
    rw [BitVec.toNat_and, BitVec.toNat_ofInt, h15, Nat.and_two_pow_sub_one_eq_mod]
  show IntKind.i64.wrap ((BitVec.ofInt 64 n &&& BitVec.ofInt 64 15).toNat : Nat) = n % 16
  rw [key, IntKind.wrap_i64]
  omega
theorem i64_and1023 (n : Int) : bits .and .i64 n 1023 = n % 1024 := by
  have h1023 : (BitVec.ofInt 64 1023).toNat = 2 ^ 10 - 1 := by decide
  have key : (BitVec.ofInt 64 n &&& BitVec.ofInt 64 1023).toNat = (n % ((2 ^ 64 : Nat) : Int)).toNat % 2 ^ 10 := by
    rw [BitVec.toNat_and, BitVec.toNat_ofInt, h1023, Nat.and_two_pow_sub_one_eq_mod]
  show IntKind.i64.wrap ((BitVec.ofInt 64 n &&& BitVec.ofInt 64 1023).toNat : Nat) = n % 1024
  rw [key, IntKind.wrap_i64]
  omega
theorem i64_and7 (n : Int) : bits .and .i64 n 7 = n % 8 := by
  have h7 : (BitVec.ofInt 64 7).toNat = 2 ^ 3 - 1 := by decide
  have key : (BitVec.ofInt 64 n &&& BitVec.ofInt 64 7).toNat = (n % ((2 ^ 64 : Nat) : Int)).toNat % 2 ^ 3 := by
    rw [BitVec.toNat_and, BitVec.toNat_ofInt, h7, Nat.and_two_pow_sub_one_eq_mod]
  show IntKind.i64.wrap ((BitVec.ofInt 64 n &&& BitVec.ofInt 64 7).toNat : Nat) = n % 8
  rw [key, IntKind.wrap_i64]
  omega
set_option maxRecDepth 100000 in
theorem run_slh_b (o : Option Addr) (n cap : Nat) (k k' : IntKind) (l : Nat) (x : Int) (hl : (l : Int) ≤ x) (hh : x ≤ (cap : Int)) (wx : World) : (Instr.slice 34 (.slice o n cap) (some (.int k (l : Int))) (some (.int k' x)) none).run Tryd.prog wx = .ok (.slice (slo o cap l) (x.toNat - l) (cap - l)) wx := by
  rw [run_slice_lh wx 34 o n cap Tryd.underlying34 k k' l x (by omega) (by omega) (by omega)]
  have hz : (sizeOf (Tryd.prog.elem 34)).run Tryd.prog wx = .ok 1 wx := by kernel_rfl
  rw [hz]
  simp [Result.andThen, sliced, slo]
/-- a part of a slice -/
theorem slice_lh {K : IntKind} {w : World} {o : Option Addr} {n cap : Nat} {zs : List Int} (H : Nums K w o n cap zs) (l N : Nat) (hh : l + N ≤ n) : Nums K w (slo o cap l) N (cap - l) ((zs.drop l).take N) := by
  have hle := H.le
  have h1 := slice_lo H l (by omega)
  refine ⟨by rw [List.length_take, h1.len]; omega, by omega, h1.max, ?_⟩
  rcases h1.at_ with h0 | ⟨b, off, he, hb, hc⟩
  · exact .inl (by omega)
  · exact .inr ⟨b, off, he, hb, fun k hk => by rw [hc k (by omega)]; simp [List.getD, hk]⟩
theorem u8s_lh (l : List UInt8) (a b : Nat) : ((u8s l).drop a).take b = u8s ((l.drop a).take b) := by simp [u8s]

end Go.Proofs.YtgkodjkhhmcnnaaDoor
