/- A row's bytes as a text. -/
import Derived.Test.YtgkodjkhhmcnnaaDoorEscMath
import Derived.Test.YtgkodjkhhmcnnaaDoorGlReadM
import Derived.Test.YtgkodjkhhmcnnaaDoorEscRow
import Derived.Test.YtgkodjkhhmcnnaaDoorGlSlh
import Derived.Deep.DeepCutAuto
namespace Go.Proofs.YtgkodjkhhmcnnaaDoor
open Go.RowKit
/-- a row's bytes as a text -/
theorem conv_row {w : World} {o : Option Addr} {n c : Nat} {l : List UInt8} (h : Bts w o n c l) (m : Nat) (hm : m ≤ n) : (convert 34 9 (.slice o m c)).run Tryd.prog w = .ok (.string ⟨(l.take m).toArray⟩) w := by
  have hl := h.size
  have hlt : (l.take m).length = m := by rw [List.length_take]; omega
  have key : ∀ a, (∀ j, j < m → w.cell? (a.add j) = some (.int .u8 ((l.take m).getD j 0).toNat)) → (convert 34 9 (.slice (some a) m c)).run Tryd.prog w = .ok (.string ⟨(l.take m).toArray⟩) w := fun a ha => by
    have := run_convert_bytes_back (P := Tryd.prog) w 34 9 5 a c (l.take m) Tryd.underlying34 Tryd.underlying5 Tryd.underlying9 (fun j hj => by
      rw [ha j (by omega)]
      simp only [List.getD, List.getElem?_eq_getElem hj, Option.getD_some])
    rwa [hlt] at this
  by_cases h0 : m = 0
  · subst h0
    cases o with
    | none => exact run_convert_bytes_nil w 34 5 Tryd.underlying34 Tryd.underlying5 0 c 9 Tryd.underlying9
    | some a => exact key a (fun j hj => by omega)
  · obtain ⟨b, off, rfl, hb, hc⟩ := h.byte (by omega)
    refine key _ (fun j hj => ?_)
    rw [show (⟨b, off, none⟩ : Addr).add j = ⟨b, off + j, none⟩ by unfold Addr.add; split <;> simp_all, hc j (by omega)]
    simp [gl.b, List.getD, hj]
end Go.Proofs.YtgkodjkhhmcnnaaDoor
