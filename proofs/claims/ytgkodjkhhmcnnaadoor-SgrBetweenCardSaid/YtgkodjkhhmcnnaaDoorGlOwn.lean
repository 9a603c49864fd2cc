/- Rows of numbers of a kind that the call owns: append. -/
import Derived.Test.YtgkodjkhhmcnnaaDoorGlMem
namespace Go.Proofs.YtgkodjkhhmcnnaaDoor
open Go.RowKit
variable {K : IntKind}

theorem infoR : (Tryd.prog.info? 21).map (fun i => (i.zero, i.size, i.bytes)) = some (some (Value.int .i32 0), 1, 4) := by kernel_rfl
/-- the numbers of a kind as cells -/
abbrev cs (K : IntKind) (xs : List Int) : List Value := xs.map (Value.int K)
theorem Nums.new (w : World) (T : TypeId) (zs : List Int) (h : zs.length ≤ 1000) : Nums K (w.alloc (.cells (zs.map (Value.int K)).toArray T)) (some ⟨w.heap.size, 0, none⟩) zs.length zs.length zs := by
  refine ⟨rfl, Nat.le_refl _, by unfold maxLen; omega, .inr ⟨w.heap.size, 0, rfl, by simp, fun k hk => ?_⟩⟩
  have he : (w.alloc (.cells (zs.map (Value.int K)).toArray T)).heap[w.heap.size]? = some (.cells (zs.map (Value.int K)).toArray T) := by
    show (w.heap.push _)[w.heap.size]? = _
    simp
  show (match (w.alloc (.cells (zs.map (Value.int K)).toArray T)).heap[w.heap.size]? with
    | some (.cells c _ _) => c[0 + k]?
    | _ => none) = _
  rw [he]
  simp [hk]
/-- numbers whose blocks lie below B stay where what lies below B stays -/
theorem Nums.off {w w' : World} {o : Option Addr} {n cap B : Nat} {zs : List Int} (H : Nums K w o n cap zs) (ho : Off o n B) (hs : w.heap.size ≤ w'.heap.size) (hb : ∀ k, k < B → w'.heap[k]? = w.heap[k]?) : Nums K w' o n cap zs := by
  refine ⟨H.len, H.le, H.max, ?_⟩
  rcases H.at_ with h0 | ⟨bb, off, rfl, h2, h3⟩
  · exact .inl h0
  · by_cases h0 : n = 0
    · exact .inl h0
    · exact .inr ⟨bb, off, rfl, Nat.lt_of_lt_of_le h2 hs, fun k hk' => (World.cell?_of_block (a := ⟨bb, off + k, none⟩) (hb bb (ho h0 _ rfl))).trans (h3 k hk')⟩
theorem run_append_nums {P : Program} (w : World) (base : Nat) (t ty e : TypeId) (i : TypeInfo) (z : Value) (by_ : Nat) (ht : P.underlying t = some (.slice e)) (hi : P.info? e = some i) (hz : i.zero = some z)
    (hsize : i.size = 1) (hby : i.bytes = by_) (hby8 : by_ ≤ 8) (hzs : z.cells.size = 1) (v : Value) (n : Nat) (xs : List Int) (hown : w.ownsRow base e 1 v n (cs K xs))
    (o : Option Addr) (m c : Nat) (zs : List Int) (hx : Nums K w o m c zs) (hnm : n + m ≤ 17592186044416) (hbase : base ≤ w.heap.size) :
    ∃ v' w', (Builtin.append_ #[t, t] ty #[v, .slice o m c]).run P w = .ok v' w' ∧ w'.ownsRow base e 1 v' (n + m) (cs K (xs ++ zs)) ∧ w.grownBy w' v.ownBlock ∧ (v'.ownBlock = v.ownBlock ∨ v'.ownBlock = some w.heap.size) := by
  have hlen := hx.len
  cases o with
  | none =>
    obtain rfl : m = 0 := by
      rcases hx.at_ with h | ⟨_, _, h, _⟩
      · exact h
      · cases h
    obtain rfl : zs = [] := List.length_eq_zero_iff.1 hlen
    refine ⟨v, w, ?_, by simpa using hown, World.grownBy.refl w _, .inl rfl⟩
    rcases hown.2 with ⟨rfl, rfl⟩ | ⟨g, cap, cur, rfl, _, _, hnc, _⟩
    · simp [Builtin.append_, run_underlying ht, sizeOf, typeInfo, hi, Builtin.lenOf, Builtin.firstCells]
    · simp [Builtin.append_, run_underlying ht, sizeOf, typeInfo, hi, Builtin.lenOf, Builtin.firstCells, hnc, storeCells]
  | some ad =>
    have hc : ∀ j u, (cs K zs)[j]? = some u → w.cell? (ad.add j) = some u := by
      intro j u hu
      rcases hx.at_ with h | ⟨b, off, h, _, hk⟩
      · obtain rfl : zs = [] := List.length_eq_zero_iff.1 (by omega)
        simp at hu
      · cases h
        have hj : j < zs.length := by
          have := (List.getElem?_eq_some_iff.1 hu).1
          simpa using this
        have := hk j (by omega)
        simp [hj] at hu
        rw [show (⟨b, off, none⟩ : Addr).add j = ⟨b, off + j, none⟩ by simp [Addr.add], this, ← hu]
        simp [List.getD, hj]
    obtain ⟨v', w', hr, h2, h3, _, h5⟩ := run_append_own_at (P := P) w base t ty e i z 1 by_ ht hi hz hsize hby hzs (by decide) v n _ hown ad m c (cs K zs) (by simp [hlen]) hc (by intro u hu; simp at hu; obtain ⟨y, _, rfl⟩ := hu; rfl) (by unfold maxLen; omega) (by have := Nat.mul_le_mul hnm hby8; omega) hbase
    exact ⟨v', w', hr, by show w'.ownsRow base e 1 v' (n + m) ((xs ++ zs).map _); rw [List.map_append]; exact h2, h3, h5⟩
theorem wpList_append_nums {P : Program} {w : World} {ops : Array Oper} {rest : List Oper} {op : Oper} {a : Act} {Q : Exit → Act → World → Prop} (hgd : op.guard = none) (s x : Operand) (t : TypeId)
    (ho : op.op = .call { callee := .builtin .append, args := #[s, x], argTypes := #[t, t] })
    (base : Nat) (e : TypeId) (i : TypeInfo) (z : Value) (by_ : Nat) (ht : P.underlying t = some (.slice e)) (hi : P.info? e = some i) (hz : i.zero = some z)
    (hsize : i.size = 1) (hby : i.bytes = by_) (hby8 : by_ ≤ 8) (hzs : z.cells.size = 1) (v : Value) (n : Nat) (xs : List Int) (hs : a.eval s = v) (hown : w.ownsRow base e 1 v n (cs K xs))
    (o : Option Addr) (m c : Nat) (zs : List Int) (hx : a.eval x = .slice o m c) (hxi : Nums K w o m c zs) (hnm : n + m ≤ 17592186044416) (hbase : base ≤ w.heap.size)
    (h : ∀ v' w', w'.ownsRow base e 1 v' (n + m) (cs K (xs ++ zs)) → w.grownBy w' v.ownBlock → (v'.ownBlock = v.ownBlock ∨ v'.ownBlock = some w.heap.size) → wpList P ops Q rest (a.put op.dst v') w') : wpList P ops Q (op :: rest) a w := by
  refine wpList_plain hgd fun K hK => ?_
  obtain ⟨v', w', hr, h2, h3, h4⟩ := run_append_nums (P := P) w base t op.type e i z by_ ht hi hz hsize hby hby8 hzs v n xs hown o m c zs hxi hnm hbase
  unfold Oper.wp execOp
  simp only [ho, resolve, invoke, builtin, Sem.run_bind, Sem.run_pure, Result.andThen_ok, List.map_toArray, List.map_cons, List.map_nil, hs, hx, hr]
  exact hK _ _ (h v' w' h2 h3 h4)
theorem nums_one (wr : World) (x : Int) (T : TypeId) : Nums K (wr.alloc (.cells #[.int K x] T)) (some ⟨wr.heap.size, 0, none⟩) 1 1 [x] := by
  have := Nums.new (K := K) wr T [x] (by simp)
  simpa using this
/-- a row, told with its place -/
structure Own (w : World) (B : Nat) (e : TypeId) (K : IntKind) (o : Option Addr) (n cap : Nat) (xs : List Int) : Prop where
  row : w.ownsRow B e 1 (.slice o n cap) n (cs K xs)
theorem Own.len {w : World} {B : Nat} {e : TypeId} {o : Option Addr} {n cap : Nat} {xs : List Int} (h : Own w B e K o n cap xs) : xs.length = n := by have := own_len h.row; simpa using this
theorem Own.lt {w : World} {B : Nat} {e : TypeId} {o : Option Addr} {n cap : Nat} {xs : List Int} (h : Own w B e K o n cap xs) : ∀ a, o = some a → B ≤ a.block ∧ a.block < w.heap.size := fun a ha => h.row.lt a.block (by rw [ha]; rfl)
theorem Own.nums {w : World} {B : Nat} {e : TypeId} {o : Option Addr} {n cap : Nat} {xs : List Int} (h : Own w B e K o n cap xs) : Nums K w o n cap xs := by
  obtain ⟨o', c', h1, h2⟩ := Nums.of_own h.row
  cases h1
  exact h2
theorem Own.of {w : World} {B : Nat} {e : TypeId} {v : Value} {n : Nat} {xs : List Int} (h : w.ownsRow B e 1 v n (cs K xs)) : ∃ o cap, v = .slice o n cap ∧ Own w B e K o n cap xs := by
  obtain ⟨o, cap, rfl, _⟩ := Nums.of_own h
  exact ⟨o, cap, rfl, ⟨h⟩⟩
theorem Own.nil (w : World) (B : Nat) (e : TypeId) (K : IntKind) : Own w B e K none 0 0 [] := ⟨World.ownsRow_nil w B e 1⟩
theorem Own.off {w : World} {B : Nat} {e : TypeId} {o : Option Addr} {n cap : Nat} {xs : List Int} (h : Own w B e K o n cap xs) : Off o n w.heap.size := fun _ a ha => (h.lt a ha).2
theorem Own.kept {w w' : World} {B : Nat} {e : TypeId} {o : Option Addr} {n cap : Nat} {xs : List Int} (h : Own w B e K o n cap xs) {S : Nat → Prop} (hk : Kept w w' S) (hS : ∀ a, o = some a → ¬ S a.block) : Own w' B e K o n cap xs :=
  ⟨hk.row h.row (fun k hk' => by
    cases o with
    | none => cases hk'
    | some a => cases hk'; exact hS a rfl)⟩
theorem Own.below {w w' : World} {B : Nat} {e : TypeId} {o : Option Addr} {n cap : Nat} {xs : List Int} (h : Own w B e K o n cap xs) (hk : Below w.heap.size w w') : Own w' B e K o n cap xs := by
  refine ⟨⟨h.row.1, ?_⟩⟩
  rcases h.row.2 with h' | ⟨g, c, cur, he, hb, hg, rest⟩
  · exact .inl h'
  · exact .inr ⟨g, c, cur, he, hb, (hk.block g (Array.getElem?_eq_some_iff.1 hg).1).trans hg, rest⟩
theorem Own.base {w : World} {B B' : Nat} {e : TypeId} {o : Option Addr} {n cap : Nat} {xs : List Int} (h : Own w B e K o n cap xs) (hB : B' ≤ B) : Own w B' e K o n cap xs := ⟨own_base h.row hB⟩
/-- what grows a row that lies above B keeps what lies below B -/
theorem grown_below {w w' : World} {B : Nat} {e : TypeId} {v : Value} {n : Nat} {xs : List Value} (hg : w.grownBy w' v.ownBlock) (h : w.ownsRow B e 1 v n xs) (hB : B ≤ w.heap.size) : Below B w w' :=
  ⟨hg.os, hg.tape, hg.output, hg.size, fun k hk => hg.block k (Nat.lt_of_lt_of_le hk hB) (fun e' => by have := (h.lt k e'.symm).1; omega)⟩
end Go.Proofs.YtgkodjkhhmcnnaaDoor
