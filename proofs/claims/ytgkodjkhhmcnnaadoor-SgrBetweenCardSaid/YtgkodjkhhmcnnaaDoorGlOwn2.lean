/- Append to rows, as long as the form's reach lets them be. -/
import Derived.Test.YtgkodjkhhmcnnaaDoorGlOwn
namespace Go.Proofs.YtgkodjkhhmcnnaaDoor
open Go.RowKit
variable {K : IntKind}

theorem run_append_big {P : Program} (w : World) (base : Nat) (t ty e : TypeId) (i : TypeInfo) (z : Value) (by_ : Nat) (ht : P.underlying t = some (.slice e)) (hi : P.info? e = some i) (hz : i.zero = some z)
    (hsize : i.size = 1) (hby : i.bytes = by_) (hzs : z.cells.size = 1) (v : Value) (n : Nat) (xs : List Int) (hown : w.ownsRow base e 1 v n (cs K xs))
    (o : Option Addr) (m c : Nat) (zs : List Int) (hx : Nums K w o m c zs) (hnm : (n + m) * by_ ≤ 140737488355328) (hnl : n + m ≤ 140737488355328) (hbase : base ≤ w.heap.size) :
    ∃ v' w', (Builtin.append_ #[t, t] ty #[v, .slice o m c]).run P w = .ok v' w' ∧ w'.ownsRow base e 1 v' (n + m) (cs K (xs ++ zs)) ∧ w.grownBy w' v.ownBlock ∧ (v'.ownBlock = v.ownBlock ∨ v'.ownBlock = some w.heap.size) := by
  have hlen := hx.len
  cases o with
  | none =>
    obtain rfl : m = 0 := by
      rcases hx.at_ with h | ⟨_, _, h, _⟩
      · exact h
      · cases h
    obtain rfl : zs = [] := List.length_eq_zero_iff.1 hlen
    refine ⟨v, w, ?_, by simpa using hown, World.grownBy.refl w _, .inl rfl⟩
    rcases hown.2 with ⟨rfl, rfl⟩ | ⟨g, cap, cur, rfl, _, _, hnc, _⟩
    · simp [Builtin.append_, run_underlying ht, sizeOf, typeInfo, hi, Builtin.lenOf, Builtin.firstCells]
    · simp [Builtin.append_, run_underlying ht, sizeOf, typeInfo, hi, Builtin.lenOf, Builtin.firstCells, hnc, storeCells]
  | some ad =>
    have hc : ∀ j u, (cs K zs)[j]? = some u → w.cell? (ad.add j) = some u := by
      intro j u hu
      rcases hx.at_ with h | ⟨b, off, h, _, hk⟩
      · obtain rfl : zs = [] := List.length_eq_zero_iff.1 (by omega)
        simp at hu
      · cases h
        have hj : j < zs.length := by
          have := (List.getElem?_eq_some_iff.1 hu).1
          simpa using this
        have := hk j (by omega)
        simp [hj] at hu
        rw [show (⟨b, off, none⟩ : Addr).add j = ⟨b, off + j, none⟩ by simp [Addr.add], this, ← hu]
        simp [List.getD, hj]
    obtain ⟨v', w', hr, h2, h3, _, h5⟩ := run_append_own_at (P := P) w base t ty e i z 1 by_ ht hi hz hsize hby hzs (by decide) v n _ hown ad m c (cs K zs) (by simp [hlen]) hc (by intro u hu; simp at hu; obtain ⟨y, _, rfl⟩ := hu; rfl) (by unfold maxLen; omega) (by omega) hbase
    exact ⟨v', w', hr, by show w'.ownsRow base e 1 v' (n + m) ((xs ++ zs).map _); rw [List.map_append]; exact h2, h3, h5⟩
theorem wpList_append_big {P : Program} {w : World} {ops : Array Oper} {rest : List Oper} {op : Oper} {a : Act} {Q : Exit → Act → World → Prop} (hgd : op.guard = none) (s x : Operand) (t : TypeId)
    (ho : op.op = .call { callee := .builtin .append, args := #[s, x], argTypes := #[t, t] })
    (base : Nat) (e : TypeId) (i : TypeInfo) (z : Value) (by_ : Nat) (ht : P.underlying t = some (.slice e)) (hi : P.info? e = some i) (hz : i.zero = some z)
    (hsize : i.size = 1) (hby : i.bytes = by_) (hzs : z.cells.size = 1) (v : Value) (n : Nat) (xs : List Int) (hs : a.eval s = v) (hown : w.ownsRow base e 1 v n (cs K xs))
    (o : Option Addr) (m c : Nat) (zs : List Int) (hx : a.eval x = .slice o m c) (hxi : Nums K w o m c zs) (hnm : (n + m) * by_ ≤ 140737488355328) (hnl : n + m ≤ 140737488355328) (hbase : base ≤ w.heap.size)
    (h : ∀ v' w', w'.ownsRow base e 1 v' (n + m) (cs K (xs ++ zs)) → w.grownBy w' v.ownBlock → (v'.ownBlock = v.ownBlock ∨ v'.ownBlock = some w.heap.size) → wpList P ops Q rest (a.put op.dst v') w') : wpList P ops Q (op :: rest) a w := by
  refine wpList_plain hgd fun K hK => ?_
  obtain ⟨v', w', hr, h2, h3, h4⟩ := run_append_big (P := P) w base t op.type e i z by_ ht hi hz hsize hby hzs v n xs hown o m c zs hxi hnm hnl hbase
  unfold Oper.wp execOp
  simp only [ho, resolve, invoke, builtin, Sem.run_bind, Sem.run_pure, Result.andThen_ok, List.map_toArray, List.map_cons, List.map_nil, hs, hx, hr]
  exact hK _ _ (h v' w' h2 h3 h4)
end Go.Proofs.YtgkodjkhhmcnnaaDoor
