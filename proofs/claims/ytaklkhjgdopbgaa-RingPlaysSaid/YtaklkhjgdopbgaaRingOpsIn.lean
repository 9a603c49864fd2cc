/- The calls of a script that comes in; what stays as it is while a ring and the document's answer go on side by side. -/
import Derived.Test.YtaklkhjgdopbgaaRingRefPush
import Derived.Test.YtaklkhjgdopbgaaRingLift
import Derived.Deep.Slices
namespace Go.Proofs.Ytaklkhjgdopbgaa
open Go.ChangeShapes Go.WideShapes Go.ChangeAt Go.RowKit Go.Joins Go.Deep

/-- calls in the cells of a slice -/
structure Ops (w : World) (o : Option Addr) (n cap : Nat) (L : List (Int × Int)) : Prop where
  len : L.length = n
  le : n ≤ cap
  max : cap ≤ maxLen
  at_ : n = 0 ∨ ∃ b off, o = some ⟨b, off, none⟩ ∧ b < w.heap.size ∧ ∀ k, k < n → w.cell? ⟨b, off + k * 2, none⟩ = some (.int .i64 (L.getD k (0, 0)).1) ∧ w.cell? ⟨b, off + k * 2 + 1, none⟩ = some (.int .i64 (L.getD k (0, 0)).2)
theorem Ops.cell {w : World} {o : Option Addr} {n cap : Nat} {L : List (Int × Int)} (H : Ops w o n cap L) {k : Nat} (hk : k < n) : ∃ b off, o = some ⟨b, off, none⟩ ∧ b < w.heap.size ∧ w.cell? ⟨b, off + k * 2, none⟩ = some (.int .i64 (L.getD k (0, 0)).1) ∧ w.cell? ⟨b, off + k * 2 + 1, none⟩ = some (.int .i64 (L.getD k (0, 0)).2) := by
  rcases H.at_ with h0 | ⟨b, off, h1, h2, h3⟩
  · omega
  · exact ⟨b, off, h1, h2, h3 k hk⟩

section
variable {H : Type} {enc : TypeId × Value → H}
theorem bytesOp : Try.prog.bytesOf 31 = 16 := by kernel_rfl
theorem cellsOp : Try.prog.cellsOf 31 = 2 := by kernel_rfl
theorem op_cells {W : World} {base : Nat} {sp : Nat → Bool} {held : Bool} {fuel : Nat} {cs : List Value} {x : DataW H × List MemPlace} (h : DataW.trod enc Try.prog W base sp held fuel 31 cs = some x) : ∃ r : Int × Int, cs = [.int .i64 r.1, .int .i64 r.2] := by
  obtain ⟨y0, y1, n, _, hl, h0, h1⟩ := trod_struct2 Try.underlying31 h
  rw [cellsOp] at hl
  match cs, hl with
  | [c0, c1], _ =>
    obtain ⟨a0, e0, _⟩ := DataW.trod_int Try.underlying3 h0
    obtain ⟨a1, e1, _⟩ := DataW.trod_int Try.underlying3 h1
    simp [cellsInt] at e0 e1
    subst e0 e1
    exact ⟨(a0, a1), rfl⟩
/-- a script among the arguments -/
theorem open_ops_in {W : World} {base b0 : Nat} {held : Bool} {r : Reach} {v : Value} {d : DataW H} {p : List MemPlace} (hv : Value.okWide Try.prog W r b0 22 v) (h : DataW.Trod enc Try.prog W base (fun _ => true) held 22 v d p)
    (hs : ∀ el sp, d = .slice el sp → (el.length + sp.length) * Try.prog.bytesOf 31 ≤ reachBytes) :
    ∃ o n cap L, v = .slice o n cap ∧ Ops W o n cap L ∧ n * 16 ≤ 140737488351232 := by
  obtain ⟨a, n, cap, rfl⟩ := okWide_slice Try.underlying22 hv
  obtain ⟨fuel, hf⟩ := h
  rcases open_slice Try.underlying22 hf with ⟨hcs, hx⟩ | ⟨a', len, cap', m, k, D, Pl, hcs, _, hl, hm, hmm, hx, hall⟩
  · simp [Value.cells] at hcs
    obtain ⟨rfl, rfl, rfl⟩ := hcs
    exact ⟨none, 0, 0, [], rfl, ⟨rfl, Nat.le_refl _, Nat.zero_le _, .inl rfl⟩, by omega⟩
  · simp [Value.cells] at hcs
    obtain ⟨rfl, rfl, rfl⟩ := hcs
    simp only [if_true] at hmm
    subst hmm
    simp only [Prod.mk.injEq] at hx
    have hb := hs _ _ hx.1
    rw [bytesOp] at hb
    simp only [List.length_map, List.length_range, reachBytes] at hb
    rw [cellsOp] at hall
    by_cases h0 : n = 0
    · subst h0
      exact ⟨_, 0, m, [], rfl, ⟨rfl, hl, hm, .inl rfl⟩, by omega⟩
    · obtain ⟨R, hR⟩ := choose_lt (α := Int × Int) (n := m) (p := fun i r => ∀ j, j < 2 → W.cell? ((a'.add (i * 2)).add j) = ([.int .i64 r.1, .int .i64 r.2] : List Value)[j]?) (fun i hi => by
        obtain ⟨cs', h1, h2⟩ := hall i hi
        obtain ⟨r, rfl⟩ := op_cells h2
        exact ⟨r, (World.cells?_some h1).2.2⟩)
      have hsp : ∃ b off, a' = ⟨b, off, none⟩ := by
        obtain ⟨b, off, spot⟩ := a'
        have := World.cell?_spot (v := .int .i64 (R 0).1) (by rw [hR 0 (by omega) 0 (by decide)]; rfl)
        have hspot : spot = none := by simpa [Addr.add] using this
        subst hspot
        exact ⟨b, off, rfl⟩
      obtain ⟨b, off, rfl⟩ := hsp
      have hc : ∀ i, i < m → ∀ j, j < 2 → W.cell? ⟨b, off + i * 2 + j, none⟩ = ([.int .i64 (R i).1, .int .i64 (R i).2] : List Value)[j]? := fun i hi j hj => by
        rw [← hR i hi j hj, Go.WideShapes.add_plain, Go.WideShapes.add_plain]
      refine ⟨_, n, m, (List.range n).map R, rfl, ⟨by simp, hl, hm, .inr ⟨b, off, rfl, ?_, fun t ht => ?_⟩⟩, by omega⟩
      · exact cell_lt (a := ⟨b, off + 0 * 2 + 0, none⟩) (v := .int .i64 (R 0).1) (by rw [hc 0 (by omega) 0 (by decide)]; rfl)
      · have e : ((List.range n).map R).getD t (0, 0) = R t := by simp [List.getD, ht]
        rw [e]
        exact ⟨hc t (by omega) 0 (by decide), hc t (by omega) 1 (by decide)⟩
end

/-- the document's answer in its box, beside a ring -/
structure St (w : World) (b : Nat) (pv : Value) (mb : Nat) (o : Option Addr) (n c M g : Nat) (zs : List Int) : Prop where
  box : w.heap[mb]? = some (boxObj (.slice o n c) M g)
  ints : Ints w o n c zs
  sep : ∀ a, o = some a → a.block < w.heap.size ∧ ¬ Tch b pv a.block ∧ a.block ≠ mb
  nm : ¬ Tch b pv mb
theorem St.ring {w w' : World} {b : Nat} {pv pv' : Value} {mb : Nat} {o : Option Addr} {n c M g : Nat} {zs : List Int} (h : St w b pv mb o n c M g zs) (hk : Kept w w' (Tch b pv)) (hm : Moved w pv pv') : St w' b pv' mb o n c M g zs := by
  have hmb := (Array.getElem?_eq_some_iff.1 h.box).1
  have hT : ∀ k, k < w.heap.size → ¬ Tch b pv k → ¬ Tch b pv' k := fun k hlt hn ht => by
    rcases ht with ht | ht
    · exact hn (.inl ht)
    · rcases hm k ht with h' | h'
      · exact hn (.inr h')
      · omega
  exact ⟨hk.same h.box h.nm, h.ints.grown hk (fun a ha => (h.sep a ha).2.1), fun a ha => ⟨Nat.lt_of_lt_of_le (h.sep a ha).1 hk.size, hT _ (h.sep a ha).1 (h.sep a ha).2.1, (h.sep a ha).2.2⟩, hT mb hmb h.nm⟩
theorem St.below {w w' : World} {b : Nat} {pv : Value} {mb : Nat} {o : Option Addr} {n c M g : Nat} {zs : List Int} (h : St w b pv mb o n c M g zs) (hb : Below w.heap.size w w') : St w' b pv mb o n c M g zs :=
  ⟨(hb.block mb (Array.getElem?_eq_some_iff.1 h.box).1).trans h.box, h.ints.below hb, fun a ha => ⟨Nat.lt_of_lt_of_le (h.sep a ha).1 hb.size, (h.sep a ha).2⟩, h.nm⟩
/-- the next answer, stored -/
theorem St.put {w : World} {b : Nat} {pv : Value} {mb : Nat} {v0 : Value} {M0 g0 : Nat} {o : Option Addr} {n c M g : Nat} {zs : List Int} (hbox : w.heap[mb]? = some (boxObj v0 M0 g0)) (hi : Ints w o n c zs) (hs : ∀ a, o = some a → a.block < w.heap.size ∧ ¬ Tch b pv a.block ∧ a.block ≠ mb) (hnm : ¬ Tch b pv mb) (x y : Int) (hx : x = (M : Int)) (hy : y = (g : Int)) :
    St (((w.setCell ⟨mb, 0, none⟩ (.slice o n c)).setCell ⟨mb, 1, none⟩ (.int .i64 x)).setCell ⟨mb, 2, none⟩ (.int .i64 y)) b pv mb o n c M g zs := by
  subst hx hy
  have hne : ∀ a, o = some a → a.block ≠ mb := fun a ha => (hs a ha).2.2
  refine ⟨?_, ((hi.set_other ⟨mb, 0, none⟩ _ hne).set_other ⟨mb, 1, none⟩ _ hne).set_other ⟨mb, 2, none⟩ _ hne, fun a ha => ⟨by simpa using (hs a ha).1, (hs a ha).2⟩, hnm⟩
  have h0 := box_set0 hbox (.slice o n c)
  have h1 : ((w.setCell ⟨mb, 0, none⟩ (.slice o n c)).setCell ⟨mb, 1, none⟩ (.int .i64 (M : Int))).heap[mb]? = some (boxObj (.slice o n c) M g0) := by
    rw [heap_setCell_same _ mb 1 _ _ _ h0]; rfl
  exact box_set2 h1 _ g rfl
/-- a ring whose box of the answer is written -/
theorem is_put {w : World} {b mb : Nat} {pv : Value} {L : List Value} {M g : Nat} (h : rI.Is w b pv L M g) (hnm : ¬ Tch b pv mb) (u0 u1 u2 : Value) : rI.Is (((w.setCell ⟨mb, 0, none⟩ u0).setCell ⟨mb, 1, none⟩ u1).setCell ⟨mb, 2, none⟩ u2) b pv L M g := by
  have h0 : Kept w (w.setCell ⟨mb, 0, none⟩ u0) (fun k => k = mb) := Kept.setCell (S := fun k => k = mb) (p := ⟨mb, 0, none⟩) (Kept.refl w _) (fun _ => rfl) u0
  have h1 := Kept.setCell (S := fun k => k = mb) (p := ⟨mb, 1, none⟩) h0 (fun _ => rfl) u1
  have h2 := Kept.setCell (S := fun k => k = mb) (p := ⟨mb, 2, none⟩) h1 (fun _ => rfl) u2
  exact RingIs.kept h h2 (fun e => hnm (.inl e.symm)) (fun k hk' e => hnm (.inr (e ▸ hk')))
/-- the next answer, laid in a box of its own and stored in the first one -/
abbrev putW (w : World) (mb : Nat) (v x y : Value) : World := (((w.setCell ⟨mb, 0, none⟩ v).setCell ⟨mb, 1, none⟩ x).setCell ⟨mb, 2, none⟩ y)
abbrev nextW (w : World) (mb : Nat) (v x y : Value) : World := (putW w mb v x y).alloc (.cells #[v, x, y] 28)
theorem put_put {w0 w : World} {b mb : Nat} {pv : Value} {o1 : Option Addr} {n1 c1 M1 g1 : Nat} {zs1 : List Int} {L : List Value} {M2 g2 : Nat} {o : Option Addr} {n c M g : Nat} {zs : List Int} (hst : St w b pv mb o1 n1 c1 M1 g1 zs1) (hi : rI.Is w b pv L M2 g2) (hb : Below b w0 w) (hbm : b ≤ mb) (hz : Ints w o n c zs) (hs : ∀ a, o = some a → a.block < w.heap.size ∧ ¬ Tch b pv a.block ∧ a.block ≠ mb) (x y : Int) (hx : x = (M : Int)) (hy : y = (g : Int)) :
    St (putW w mb (.slice o n c) (.int .i64 x) (.int .i64 y)) b pv mb o n c M g zs ∧ rI.Is (putW w mb (.slice o n c) (.int .i64 x) (.int .i64 y)) b pv L M2 g2 ∧ Below b w0 (putW w mb (.slice o n c) (.int .i64 x) (.int .i64 y)) :=
  ⟨St.put hst.box hz hs hst.nm x y hx hy, is_put hi hst.nm _ _ _, ((hb.setCell (p := ⟨mb, 0, none⟩) hbm _).setCell (p := ⟨mb, 1, none⟩) hbm _).setCell (p := ⟨mb, 2, none⟩) hbm _⟩
theorem next_put {w0 w : World} {b mb : Nat} {pv : Value} {o1 : Option Addr} {n1 c1 M1 g1 : Nat} {zs1 : List Int} {L : List Value} {M2 g2 : Nat} {o : Option Addr} {n c M g : Nat} {zs : List Int} (hst : St w b pv mb o1 n1 c1 M1 g1 zs1) (hi : rI.Is w b pv L M2 g2) (hb : Below b w0 w) (hbm : b ≤ mb) (hz : Ints w o n c zs) (hs : ∀ a, o = some a → a.block < w.heap.size ∧ ¬ Tch b pv a.block ∧ a.block ≠ mb) (x y : Int) (hx : x = (M : Int)) (hy : y = (g : Int)) :
    St (nextW w mb (.slice o n c) (.int .i64 x) (.int .i64 y)) b pv mb o n c M g zs ∧ rI.Is (nextW w mb (.slice o n c) (.int .i64 x) (.int .i64 y)) b pv L M2 g2 ∧ Below b w0 (nextW w mb (.slice o n c) (.int .i64 x) (.int .i64 y)) := by
  obtain ⟨h1, h2, h3⟩ := put_put hst hi hb hbm hz hs x y hx hy
  have hba : Below (putW w mb (.slice o n c) (.int .i64 x) (.int .i64 y)).heap.size (putW w mb (.slice o n c) (.int .i64 x) (.int .i64 y)) (nextW w mb (.slice o n c) (.int .i64 x) (.int .i64 y)) := (Below.refl _ _).alloc (Nat.le_refl _) _
  exact ⟨h1.below hba, h2.below hba, h3.alloc (Nat.le_of_lt h2.lt) _⟩
theorem St.drewN {w : World} {b : Nat} {pv : Value} {mb : Nat} {o : Option Addr} {n c M g : Nat} {zs : List Int} (h : St w b pv mb o n c M g zs) (j : Nat) : St (w.drewN j) b pv mb o n c M g zs := ⟨h.box, h.ints.drewN j, h.sep, h.nm⟩
theorem Ints.init {w : World} {o : Option Addr} {n c : Nat} {zs : List Int} {x : Int} (h : Ints w o (n + 1) c (zs ++ [x])) : Ints w o n n zs := by
  have hl : zs.length = n := by have := h.len; simpa using this
  have hm := h.max; have hle := h.le
  refine ⟨hl, Nat.le_refl _, by omega, ?_⟩
  rcases h.at_ with h0 | ⟨b, off, h1, h2, h3⟩
  · omega
  · exact .inr ⟨b, off, h1, h2, fun k hk => by rw [h3 k (by omega)]; simp [List.getD, List.getElem?_append_left (show k < zs.length by omega)]⟩
/-- a Push into a ring that is full -/
theorem push_over2 {w : World} {b : Nat} {pv : Value} {zs : List Int} {M g : Nat} (v : Int) (h : rI.Is w b pv (zs.map (Value.int .i64)) M g) (hl : zs.length = M) (hg : g < 4611686018427387904) :
    Calls Try.prog 11 #[.pointer (some ⟨b, 0, none⟩), .int .i64 v] w fun e w' => e = .returned (.tuple #[.int .i64 ((zs ++ [v]).headD 0), .bool true]) ∧ RingTo 63 3 rI.Fm (.int .i64 0) w w' b pv ((zs ++ [v]).tail.map (Value.int .i64)) M (g + 1) := by
  by_cases h0 : M = 0
  · subst h0
    obtain rfl : zs = [] := List.eq_nil_of_length_eq_zero hl
    exact rI.push_none b pv [] g v w h hg
  · match zs, hl with
    | [], hl => simp at hl; omega
    | z :: zs, hl =>
      have := rI.push_full b pv ((z :: zs).map (Value.int .i64)) M g v w h (by rw [List.length_map]; exact hl) (by omega) hg
      simpa using this
theorem fresh_sep {w w' : World} {b mb : Nat} {pv : Value} {o1 : Option Addr} {n1 c1 M1 g1 : Nat} {zs1 : List Int} {L : List Value} {M2 g2 : Nat} {o : Option Addr} (hst : St w b pv mb o1 n1 c1 M1 g1 zs1) (hi : rI.Is w b pv L M2 g2) (h : ∀ a, o = some a → w.heap.size ≤ a.block ∧ a.block < w'.heap.size) : ∀ a, o = some a → a.block < w'.heap.size ∧ ¬ Tch b pv a.block ∧ a.block ≠ mb := fun a ha => by
  have hmb := (Array.getElem?_eq_some_iff.1 hst.box).1
  have hlt := hi.lt
  have h1 := h a ha
  refine ⟨h1.2, fun ht => ?_, by omega⟩
  rcases ht with ht | ht
  · omega
  · have := hi.own _ ht; omega
end Go.Proofs.Ytaklkhjgdopbgaa
