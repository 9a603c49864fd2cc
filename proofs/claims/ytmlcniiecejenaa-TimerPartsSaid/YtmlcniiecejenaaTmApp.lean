/- append(row, dues...): a row of what was told behind a row. -/
import Derived.Test.YtmlcniiecejenaaTmTwo
import Derived.Lib.AppendZeros
namespace Go.Proofs.Ytmlcniiecejenaa
open Go.RowKit
theorem dsC_one (l : List tm.T) : ∀ u ∈ dsC l, u.oneCell' = true := by
  intro u hu
  obtain ⟨t, -, ht⟩ := List.mem_flatMap.1 hu
  exact dC_one t u ht
theorem dsC_app (a b : List tm.T) : dsC (a ++ b) = dsC a ++ dsC b := by simp [dsC]
theorem run_app_dues (w : World) (B : Nat) (V : Value) (n : Nat) (cs : List Value) (hown : w.ownsRow B 57 3 V n cs) (hBw : B ≤ w.heap.size) (o : Option Addr) (m cap : Nat) (D : Nat → Prop) (ks : List Value) (hk : RowIn w D (.slice o m cap) 3 m ks) (hone : ∀ u ∈ ks, u.oneCell' = true) (hn : n + m ≤ 8192) (ty : TypeId) :
    ∃ V' w', (Builtin.append_ #[39, 39] ty #[V, .slice o m cap]).run Try.prog w = .ok V' w' ∧ w'.ownsRow B 57 3 V' (n + m) (cs ++ ks) ∧ w.grownBy w' V.ownBlock ∧ (V'.ownBlock = V.ownBlock ∨ V'.ownBlock = some w.heap.size) := by
  obtain ⟨i0, hi, hz0, hz1, hz2⟩ := info_parts infoD
  obtain ⟨o', cap', e, h1, h2, h3, h4⟩ := hk
  obtain ⟨rfl, -, rfl⟩ := Value.slice.inj e
  cases o with
  | none =>
    obtain rfl : m = 0 := by
      rcases h4 with h4 | ⟨b, off, e1, -⟩
      · exact h4
      · cases e1
    obtain rfl : ks = [] := List.length_eq_zero_iff.1 (by omega)
    refine ⟨V, w, ?_, by rw [List.append_nil]; exact hown, World.grownBy.refl w _, .inl rfl⟩
    rcases hown.2 with ⟨rfl, h5⟩ | ⟨g, cap, cur, rfl, _, _, hnc, _⟩
    · simp [Builtin.append_, run_underlying Try.underlying39, sizeOf, typeInfo, hi, Builtin.lenOf, Builtin.firstCells]
    · simp [Builtin.append_, run_underlying Try.underlying39, sizeOf, typeInfo, hi, Builtin.lenOf, Builtin.firstCells, hnc, storeCells]
  | some ad =>
    have hnews : ∀ j u, ks[j]? = some u → w.cell? (ad.add j) = some u := fun j u hu => by
      rcases h4 with h4 | ⟨b, off, e1, hD, hlt, hc⟩
      · obtain rfl : ks = [] := List.length_eq_zero_iff.1 (by omega)
        cases hu
      · obtain rfl := Option.some.inj e1
        rw [show (⟨b, off, none⟩ : Addr).add j = ⟨b, off + j, none⟩ by unfold Addr.add; split <;> simp_all]
        exact hc j u hu
    obtain ⟨V', w', hrun, r1, r2, r3, r4⟩ := run_append_own_at (P := Try.prog) w B 39 ty 57 i0 _ 3 24 Try.underlying39 hi hz0 hz1 hz2 rfl (by omega) V n cs hown ad m cap ks h3 hnews hone (by unfold maxLen; omega) (by omega) hBw
    exact ⟨V', w', hrun, r1, r2, r4⟩
theorem wpList_app_dues {w : World} {ops : Array Oper} {rest : List Oper} {op : Oper} {a : Act} {Q : Exit → Act → World → Prop} (hgd : op.guard = none) (s x : Operand)
    (ho : op.op = .call { callee := .builtin .append, args := #[s, x], argTypes := #[39, 39] }) (B : Nat) (V : Value) (n : Nat) (cs : List Value) (hs : a.eval s = V) (hown : w.ownsRow B 57 3 V n cs) (hBw : B ≤ w.heap.size)
    (o : Option Addr) (m cap : Nat) (D : Nat → Prop) (ks : List Value) (hx : a.eval x = .slice o m cap) (hk : RowIn w D (.slice o m cap) 3 m ks) (hone : ∀ u ∈ ks, u.oneCell' = true) (hn : n + m ≤ 8192)
    (h : ∀ V' w', w'.ownsRow B 57 3 V' (n + m) (cs ++ ks) → w.grownBy w' V.ownBlock → (V'.ownBlock = V.ownBlock ∨ V'.ownBlock = some w.heap.size) → wpList Try.prog ops Q rest (a.put op.dst V') w') :
    wpList Try.prog ops Q (op :: rest) a w := by
  refine wpList_plain hgd fun K hK => ?_
  obtain ⟨V', w', hr, h2, h3, h4⟩ := run_app_dues w B V n cs hown hBw o m cap D ks hk hone hn op.type
  unfold Oper.wp execOp
  simp only [ho, resolve, invoke, builtin, Sem.run_bind, Sem.run_pure, Result.andThen_ok, List.map_toArray, List.map_cons, List.map_nil, hs, hx, hr]
  exact hK _ _ (h V' w' h2 h3 h4)
end Go.Proofs.Ytmlcniiecejenaa
