/- A slice of texts among the arguments. -/
import Derived.Test.YtaklkhjgdopbgaaRingText
import Derived.Test.YtaklkhjgdopbgaaRingLift
namespace Go.Proofs.Ytaklkhjgdopbgaa
open Go.ChangeShapes Go.WideShapes Go.ChangeAt Go.RowKit Go.Joins

section
variable {H : Type} {enc : TypeId × Value → H}
theorem open_texts_in {W : World} {base b0 : Nat} {held : Bool} {r : Reach} {v : Value} {d : DataW H} {p : List MemPlace} (hv : Value.okWide Try.prog W r b0 44 v) (h : DataW.Trod enc Try.prog W base (fun _ => true) held 44 v d p)
    (hs : ∀ el sp, d = .slice el sp → (el.length + sp.length) * Try.prog.bytesOf 9 ≤ reachBytes) :
    ∃ o n cap zs, v = .slice o n cap ∧ Strs W o n cap zs ∧ n * 16 ≤ 140737488351232 := by
  obtain ⟨a, n, cap, rfl⟩ := okWide_slice Try.underlying44 hv
  obtain ⟨fuel, hf⟩ := h
  rcases open_strings Try.underlying44 Try.underlying9 cellsText hf with ⟨hcs, hx⟩ | ⟨a', len, cap', zs, hcs, _, hl, hm, hzl, hx, hcell, hwz⟩
  · simp [Value.cells] at hcs
    obtain ⟨rfl, rfl, rfl⟩ := hcs
    exact ⟨none, 0, 0, [], rfl, ⟨rfl, Nat.le_refl _, Nat.zero_le _, .inl rfl⟩, by omega⟩
  · simp [Value.cells] at hcs
    obtain ⟨rfl, rfl, rfl⟩ := hcs
    simp only [if_true] at hzl
    simp only [Prod.mk.injEq] at hx
    have hb := hs _ _ hx.1
    rw [bytesText] at hb
    simp only [strs, List.length_map, List.length_take, List.length_drop, reachBytes] at hb
    refine ⟨_, n, cap, zs.take n, rfl, ⟨by rw [List.length_take]; omega, hl, hm, ?_⟩, by omega⟩
    by_cases h0 : n = 0
    · exact .inl h0
    · right
      have hsp : ∃ b off, a' = ⟨b, off, none⟩ := by
        obtain ⟨b, off, spot⟩ := a'
        have hspot : spot = none := by simpa [Addr.add] using World.cell?_spot (hcell 0 (by omega))
        subst hspot
        exact ⟨b, off, rfl⟩
      obtain ⟨b, off, rfl⟩ := hsp
      have hat : ∀ i, i < zs.length → W.cell? ⟨b, off + i, none⟩ = some (.string (zs.getD i ByteArray.empty)) := fun i hi => by
        rw [← hcell i hi, Go.WideShapes.add_plain]
      refine ⟨b, off, rfl, (cell_lt (hat 0 (by omega))), fun k hk => ?_⟩
      rw [hat k (by omega)]
      simp only [List.getD, List.getElem?_take, if_pos hk]
end
end Go.Proofs.Ytaklkhjgdopbgaa
