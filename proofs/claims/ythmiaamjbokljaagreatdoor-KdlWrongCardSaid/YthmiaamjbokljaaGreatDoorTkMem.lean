/- Texts, frames. -/
import Derived.Test.YthmiaamjbokljaaGreatDoorTkMath
import Derived.Test.YthmiaamjbokljaaGreatDoorRows
import Derived.Test.YthmiaamjbokljaaGreatDoorShelf
import Derived.WalkSpells
import Derived.WalkLawsBesides
import Derived.BigQuiet
import Derived.Deep.RegionHeld3
import Derived.Deep.RegionWith
import Derived.Deep.RegionLaw
import Derived.Deep.LoopGhost
import Derived.WalkKit
import Derived.Lib.Hide
import Derived.Laws.OwnMore
import Derived.ArgAppend
import Derived.Deep.QuietTactic
import Derived.ProofKit
import Derived.OpenShut
import Derived.Carry
import Derived.Lib.SmallJoins
import Derived.Lib.SliceRun
import Derived.Laws.Slices
import Derived.IntWalk
import Derived.Maps.AppendAt
import Derived.Deep.DeepCutAuto
import Derived.Laws.ResultCell
namespace Go.Proofs.YthmiaamjbokljaaGreatDoor
open Go.RowKit
/-- a text as a value -/
abbrev str (l : List UInt8) : Value := .string ⟨l.toArray⟩
theorem str_size (l : List UInt8) : (ByteArray.mk l.toArray).size = l.length := by simp [ByteArray.size]
theorem str_extract (l : List UInt8) (a b : Nat) : (ByteArray.mk l.toArray).extract a b = ⟨((l.drop a).take (b - a)).toArray⟩ := by
  apply ByteArray.ext
  simp [ByteArray.data_extract, List.extract_eq_take_drop]
theorem run_str_lo (l : List UInt8) (k : IntKind) (a : Nat) (ha : a ≤ l.length) (wx : World) : (Instr.slice 9 (.string ⟨l.toArray⟩) (some (.int k (a : Int))) none none).run Tryz.prog wx = .ok (str (l.drop a)) wx := by
  rw [run_slice_string_l (P := Tryz.prog) (w := wx) (ht := Tryz.underlying9) (kl := k) (h0 := by omega) (h1 := by rw [str_size]; omega)]
  simp [str_extract, str_size, List.take_of_length_le]
theorem run_str_hi (l : List UInt8) (k : IntKind) (b : Nat) (hb : b ≤ l.length) (wx : World) : (Instr.slice 9 (.string ⟨l.toArray⟩) none (some (.int k (b : Int))) none).run Tryz.prog wx = .ok (str (l.take b)) wx := by
  rw [run_slice_string_h (P := Tryz.prog) (w := wx) (ht := Tryz.underlying9) (kh := k) (h0 := by omega) (h2 := by rw [str_size]; omega)]
  simp [str_extract]
theorem run_str_idx (l : List UInt8) (k : IntKind) (i : Nat) (hi : i < l.length) (wx : World) : (Instr.index 9 (.string ⟨l.toArray⟩) (.int k (i : Int))).run Tryz.prog wx = .ok (.int .u8 (l[i].toNat : Nat)) wx := by
  rw [run_index_string (P := Tryz.prog) (h := Tryz.underlying9)]
  have h : (0 : Int) ≤ (i : Int) ∧ (i : Int) < ((ByteArray.mk l.toArray).size : Int) := ⟨by omega, by rw [str_size]; omega⟩
  rw [dif_pos h]
  rfl
theorem ret_bool {a b : Bool} (h : a = b) : Ending.returned (.bool a) = .returned (.bool b) := by rw [h]
theorem ret_nat {a b : Nat} (h : a = b) : Ending.returned (.int .i64 (a : Int)) = .returned (.int .i64 (b : Int)) := by rw [h]
end Go.Proofs.YthmiaamjbokljaaGreatDoor
