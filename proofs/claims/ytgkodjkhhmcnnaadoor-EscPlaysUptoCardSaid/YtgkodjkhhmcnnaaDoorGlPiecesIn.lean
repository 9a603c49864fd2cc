/- Pieces of bytes among the arguments. -/
import Derived.Test.YtgkodjkhhmcnnaaDoorGlPieces
import Derived.Test.YtgkodjkhhmcnnaaDoorGlOpen
import Derived.Deep.Matrix
namespace Go.Proofs.YtgkodjkhhmcnnaaDoor
open Go.ChangeShapes Go.WideShapes Go.ChangeAt Go.RowKit Go.Joins

theorem okPieces : Tryd.prog.readableRec 22 = true ∧ 22 < Tryd.prog.types.size := ⟨by kernel_rfl, of_decide_eq_true (by kernel_rfl)⟩
theorem cellsBytes : Tryd.prog.cellsOf 34 = 1 := by kernel_rfl
section
variable {H : Type} {enc : TypeId × Value → H}
theorem bulk_elem {el sp : List (DataW H)} {d : DataW H} (h : d ∈ el) : Rows.uptoBulk d ≤ Rows.uptoBulk (.slice el sp) := by
  have := bulk_part h
  simp only [Rows.uptoBulk]
  omega
theorem row_len (k : IntKind) (A : Option Addr) (L : Nat) (zs : List Int) (hL : L ≤ zs.length) (hA : A = none → zs.length = 0) : L ≤ Rows.uptoBulk (Go.Deep.intRow (H := H) k A L zs) := by
  cases A with
  | none => have := hA rfl; omega
  | some a =>
    have h := bulk_slice (Go.Deep.intRow (H := H) k (some a) L zs)
    refine Nat.le_trans ?_ h
    simp [Go.Deep.intRow, sliceLen, lits]
    omega
set_option maxRecDepth 100000 in
theorem open_pieces_in {W : World} {base b0 : Nat} {held : Bool} {r : Reach} {v : Value} {d : DataW H} {p : List MemPlace} (hv : Value.okWide Tryd.prog W r b0 22 v) (h : DataW.Trod enc Tryd.prog W base (fun _ => true) held 22 v d p)
    {l : List (DataW H)} (hk : Rows.uptoSmall H l = true) (hd : d ∈ l) : ∃ o n cap, v = .slice o n cap ∧ PiecesIn W o n cap := by
  obtain ⟨a, n, cap, rfl⟩ := okWide_slice Tryd.underlying22 hv
  obtain ⟨fuel, hf⟩ := h
  have hbulk : Rows.uptoBulk d ≤ 1048576 := by
    have h1 : Rows.uptoBulkAll l ≤ 1048576 := of_decide_eq_true hk
    have h2 := bulk_part hd
    omega
  rcases Go.Deep.open_int_rows Tryd.underlying22 Tryd.underlying34 Tryd.underlying5 cellsBytes cellsByte (by simpa [Value.cells] using hf) with ⟨hcs, hx⟩ | ⟨a', len, cap', A, L, C, Z, hcs, _, hl, hm, hx, hat⟩
  · simp at hcs
    obtain ⟨rfl, rfl, rfl⟩ := hcs
    exact ⟨none, 0, 0, rfl, ⟨Nat.le_refl _, Nat.zero_le _, fun k hk => by omega, by omega⟩⟩
  · simp at hcs
    obtain ⟨rfl, rfl, rfl⟩ := hcs
    have hn : n ≤ 1048576 := by
      have hd1 := congrArg Prod.fst hx
      dsimp only at hd1
      have h1 := bulk_slice d
      rw [hd1] at h1 hbulk
      simp [sliceLen] at h1
      omega
    refine ⟨_, n, cap, rfl, hl, hm, fun k hk => ?_, hn⟩
    obtain ⟨hc, hLC, hCm, hZ, hwf, hnone, hrow⟩ := hat k (by omega)
    have hLb : L k ≤ 1048576 := by
      have hd1 := congrArg Prod.fst hx
      dsimp only at hd1
      rw [hd1] at hbulk
      have hmem : Go.Deep.intRow (H := H) .u8 (A k) (L k) (Z k) ∈ (List.range n).map fun r => Go.Deep.intRow (H := H) .u8 (A r) (L r) (Z r) := List.mem_map.2 ⟨k, List.mem_range.2 hk, rfl⟩
      have h1 := bulk_elem (sp := ((List.range (cap - n)).map fun j => Go.Deep.intRow (H := H) .u8 (A (n + j)) (L (n + j)) (Z (n + j)))) hmem
      have h2 := row_len (H := H) .u8 (A k) (L k) (Z k) (by omega) (fun h => by rw [hZ]; exact hnone h)
      omega
    have hsp : ∃ b off, a' = ⟨b, off, none⟩ := by
      obtain ⟨b, off, spot⟩ := a'
      have hspot : spot = none := by simpa [Addr.add] using World.cell?_spot (hat 0 (by omega)).1
      subst hspot
      exact ⟨b, off, rfl⟩
    obtain ⟨b, off, rfl⟩ := hsp
    have hc' : W.cell? ⟨b, off + k, none⟩ = some (.slice (A k) (L k) (C k)) := by
      have := hc
      rwa [Go.WideShapes.add_plain] at this
    refine ⟨b, off, A k, L k, C k, ((Z k).take (L k)).map fun z => UInt8.ofNat z.toNat, rfl, cell_lt hc', hc', ?_, hLb⟩
    unfold Bts
    rw [u8s_back _ (fun z hz => u8_of_wf (hwf z (List.mem_of_mem_take hz)))]
    refine ⟨by rw [List.length_take]; omega, hLC, hCm, ?_⟩
    by_cases h0 : L k = 0
    · exact .inl h0
    · right
      cases hA : A k with
      | none => have := hnone hA; omega
      | some a2 =>
        obtain ⟨_, hcell⟩ := hrow a2 hA
        have hsp2 : ∃ b off, a2 = ⟨b, off, none⟩ := by
          obtain ⟨b, off, spot⟩ := a2
          have hspot : spot = none := by simpa [Addr.add] using World.cell?_spot (hcell 0 (by omega))
          subst hspot
          exact ⟨b, off, rfl⟩
        obtain ⟨b2, off2, rfl⟩ := hsp2
        have hat2 : ∀ i, i < C k → W.cell? ⟨b2, off2 + i, none⟩ = some (.int .u8 ((Z k).getD i 0)) := fun i hi => by
          rw [← hcell i hi, Go.WideShapes.add_plain]
        refine ⟨b2, off2, rfl, cell_lt (hat2 0 (by omega)), fun i hi => ?_⟩
        rw [hat2 i (by omega)]
        simp only [List.getD, List.getElem?_take, if_pos hi]
end
end Go.Proofs.YtgkodjkhhmcnnaaDoor
