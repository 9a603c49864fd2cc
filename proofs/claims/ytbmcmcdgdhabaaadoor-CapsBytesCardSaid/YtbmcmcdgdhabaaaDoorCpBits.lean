/- Bits of numbers (without Go). -/
import Derived.Test.YtbmcmcdgdhabaaaDoorMdMem
namespace Go.Proofs.YtbmcmcdgdhabaaaDoor
namespace cp
def tb (x : Int) (k : Nat) : Bool := (BitVec.ofInt 64 x).getLsbD k
theorem ofInt_wrap (n : Nat) : BitVec.ofInt 64 (IntKind.i64.wrap (n : Int)) = BitVec.ofNat 64 n := by
  apply BitVec.eq_of_toNat_eq
  rw [BitVec.toNat_ofInt, BitVec.toNat_ofNat, IntKind.wrap_i64]
  omega
theorem ofInt_bits (x y : Int) : BitVec.ofInt 64 (bits .and .i64 x y) = BitVec.ofInt 64 x &&& BitVec.ofInt 64 y ∧ BitVec.ofInt 64 (bits .or .i64 x y) = BitVec.ofInt 64 x ||| BitVec.ofInt 64 y := by
  have key : ∀ b : BitVec 64, BitVec.ofInt 64 (IntKind.i64.wrap ((b.toNat : Nat) : Int)) = b := fun b => by
    rw [ofInt_wrap, BitVec.ofNat_toNat, BitVec.setWidth_eq]
  exact ⟨key (BitVec.ofInt 64 x &&& BitVec.ofInt 64 y), key (BitVec.ofInt 64 x ||| BitVec.ofInt 64 y)⟩
theorem tb_and (x y : Int) (k : Nat) : tb (bits .and .i64 x y) k = (tb x k && tb y k) := by
  unfold tb
  rw [(ofInt_bits x y).1, BitVec.getLsbD_and]
theorem tb_or (x y : Int) (k : Nat) : tb (bits .or .i64 x y) k = (tb x k || tb y k) := by
  unfold tb
  rw [(ofInt_bits x y).2, BitVec.getLsbD_or]
theorem and_pow (x : Int) (k : Nat) (m : Int) (hm : BitVec.ofInt 64 m = BitVec.twoPow 64 k) (hw : IntKind.i64.wrap (((BitVec.twoPow 64 k).toNat : Nat) : Int) = m) : bits .and .i64 x m = if tb x k = true then m else 0 := by
  show IntKind.i64.wrap (((BitVec.ofInt 64 x &&& BitVec.ofInt 64 m).toNat : Nat) : Int) = _
  rw [hm, BitVec.and_twoPow]
  unfold tb
  split
  · exact hw
  · rfl
/-- a capability's bit -/
def Cap (m : Int) (k : Nat) : Prop := (m = 1 ∧ k = 0) ∨ (m = 2 ∧ k = 1) ∨ (m = 4 ∧ k = 2) ∨ (m = 8 ∧ k = 3) ∨ (m = 16 ∧ k = 4) ∨ (m = 32 ∧ k = 5)
theorem Cap.and {m : Int} {k : Nat} (h : Cap m k) (x : Int) : bits .and .i64 x m = if tb x k = true then m else 0 := by
  rcases h with ⟨rfl, rfl⟩ | ⟨rfl, rfl⟩ | ⟨rfl, rfl⟩ | ⟨rfl, rfl⟩ | ⟨rfl, rfl⟩ | ⟨rfl, rfl⟩ <;> exact and_pow x _ _ (by decide) (by decide)
theorem Cap.pos {m : Int} {k : Nat} (h : Cap m k) : 0 < m ∧ k < 6 := by rcases h with ⟨rfl, rfl⟩ | ⟨rfl, rfl⟩ | ⟨rfl, rfl⟩ | ⟨rfl, rfl⟩ | ⟨rfl, rfl⟩ | ⟨rfl, rfl⟩ <;> decide
theorem tb63 {k : Nat} (h : k < 6) : tb 63 k = true := by
  have : k = 0 ∨ k = 1 ∨ k = 2 ∨ k = 3 ∨ k = 4 ∨ k = 5 := by omega
  rcases this with rfl | rfl | rfl | rfl | rfl | rfl <;> decide
def grant (h more : Int) : Int := bits .and .i64 (bits .or .i64 h more) 63
theorem tb_grant (h more : Int) {k : Nat} (hk : k < 6) : tb (grant h more) k = (tb h k || tb more k) := by
  unfold grant
  rw [tb_and, tb_or, tb63 hk, Bool.and_true]
end cp
end Go.Proofs.YtbmcmcdgdhabaaaDoor
