/- Waits of a Reader. -/
import Derived.Test.YtgkodjkhhmcnnaaDoorGlReader
namespace Go.Proofs.YtgkodjkhhmcnnaaDoor
open Go.RowKit

theorem waits_any (p off : Nat) (l : List UInt8) (cur : Array Value) (t : TypeId) (w : World) (hr : RdAt w p off l cur t) :
    Calls Tryd.prog 21 #[.pointer (some ⟨p, off, none⟩)] w fun e w' => e = .returned (.int .i64 l.length) ∧ w = w' := by
  have c3 := hr.n
  clear hr
  go_enter Tryd.func21, Tryd.ntmps21
  go_wp2
  go_ret
  exact ⟨rfl, rfl⟩
end Go.Proofs.YtgkodjkhhmcnnaaDoor
