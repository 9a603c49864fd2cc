/- Acts behind a row of acts: append(got, more...). -/
import Derived.Test.YtijfpfkmfibjjaaDoorEscTwo
import Derived.Lib.AppendZeros
namespace Go.Proofs.YtijfpfkmfibjjaaDoor
open Go.RowKit

theorem rowC_app (L M : List (es.Act × Option Addr × Nat)) : rowC (L ++ M) = rowC L ++ rowC M := by simp [rowC]
theorem rowC_one (L : List (es.Act × Option Addr × Nat)) : ∀ u ∈ rowC L, u.oneCell' = true := by
  intro u hu
  simp only [rowC, List.mem_flatMap] at hu
  obtain ⟨q, _, hq⟩ := hu
  simp [actC] at hq
  rcases hq with rfl | rfl | rfl | rfl | rfl | rfl | rfl <;> rfl
theorem run_append_acts (w : World) (ty : TypeId) (B : Nat) (v : Value) (l : List es.Act) (hown : ActsAt w B v l) (o : Option Addr) (m c : Nat) (l2 : List es.Act) (hx : ActsAt w B (.slice o m c) l2) (hnm : l.length + l2.length ≤ 1099511627776) (hbase : B ≤ w.heap.size) :
    ∃ v' w', (Builtin.append_ #[37, 37] ty #[v, .slice o m c]).run Tryd.prog w = .ok v' w' ∧ ActsAt w' B v' (l ++ l2) ∧ w.grownBy w' v.ownBlock ∧ (∀ k, v.ownBlock = some k → B ≤ k) := by
  obtain ⟨i0, hi, hz0, hz1, hz2⟩ := info_parts infoAct
  obtain ⟨L, h1, h2, h3⟩ := hown
  obtain ⟨M, m1, m2, m3⟩ := hx
  have hL : L.length = l.length := by rw [← h1, List.length_map]
  have hM : M.length = l2.length := by rw [← m1, List.length_map]
  have hvB : ∀ k, v.ownBlock = some k → B ≤ k := fun k hk => (h2.lt k hk).1
  rcases m2.2 with ⟨e, h0⟩ | ⟨g, cap, cur, e, hB, hg, hc, hm, hsz, htk⟩
  · cases e
    obtain rfl : l2 = [] := List.length_eq_zero_iff.1 (by omega)
    refine ⟨v, w, ?_, by rw [List.append_nil]; exact ⟨L, h1, h2, h3⟩, World.grownBy.refl w _, hvB⟩
    rcases h2.2 with ⟨rfl, h5⟩ | ⟨g, cap, cur, rfl, _, _, hnc, _⟩
    · simp [Builtin.append_, run_underlying Tryd.underlying37, sizeOf, typeInfo, hi, Builtin.lenOf, Builtin.firstCells]
    · simp [Builtin.append_, run_underlying Tryd.underlying37, sizeOf, typeInfo, hi, Builtin.lenOf, Builtin.firstCells, hnc, storeCells]
  · cases e
    have hnews : ∀ j u, (rowC M)[j]? = some u → w.cell? ((⟨g, 0, none⟩ : Addr).add j) = some u := fun j u hu => by
      have hj : j < (rowC M).length := (List.getElem?_eq_some_iff.1 hu).1
      have := m2.cellAt j (by rw [rowC_len] at hj; exact hj)
      rw [show (⟨g, 0, none⟩ : Addr).add j = ⟨g, j, none⟩ by unfold Addr.add; split <;> simp_all]
      exact this.trans hu
    obtain ⟨v', w', hr, r1, r2, _, _⟩ := run_append_own_at (P := Tryd.prog) w B 37 ty 45 i0 _ 7 72 Tryd.underlying37 hi hz0 hz1 hz2 rfl (by omega) v L.length (rowC L) h2
      ⟨g, 0, none⟩ M.length c (rowC M) (rowC_len M) hnews (rowC_one M) (by unfold maxLen; omega) (by omega) hbase
    · refine ⟨v', w', hr, ⟨L ++ M, by simp [h1, m1], by rw [rowC_app, List.length_append]; exact r1, fun q hq => ?_⟩, r2, hvB⟩
      have hk := (Kept.refl w (fun k => v.ownBlock = some k)).grown r2 (fun k hk _ => hk)
      have hne : ∀ k c, B ≤ k → w.heap[k]? = some (.cells c 3 (0, 0)) → ¬ v.ownBlock = some k := by
        intro k c _ hkc hv
        rcases h2.2 with ⟨rfl, _⟩ | ⟨g', cap', cur', rfl, _, hg', _⟩
        · cases hv
        · obtain rfl : g' = k := by simpa [Value.ownBlock] using hv
          rw [hg'] at hkc
          simp at hkc
      rcases List.mem_append.1 hq with hq | hq
      · exact (h3 q hq).kept hk hne
      · exact (m3 q hq).kept hk hne
end Go.Proofs.YtijfpfkmfibjjaaDoor
