/- The document's timers: rows; with, Without, First, bad. -/
import Derived.Test.YtfelmnhhldgobaaTmOrder
namespace Go.Proofs.Ytfelmnhhldgobaa
open Go.RowKit
abbrev RIn (w : World) (D : Nat → Prop) (V : Value) (l : List tm.T) : Prop := RowIn w D V 4 l.length (tsC l)
abbrev ROwn (w : World) (B : Nat) (V : Value) (l : List tm.T) : Prop := w.ownsRow B 50 4 V l.length (tsC l)
abbrev rtO (t : tm.T) : Obj := .cells #[.int .i64 t.id, .int .i64 t.owner, .int .i64 t.due, .int .i64 t.every] 50
theorem infoRT : (Try.prog.info? 50).map (fun i => (i.zero, i.size, i.bytes)) = some (some (Value.agg #[.int .i64 0, .int .i64 0, .int .i64 0, .int .i64 0]), 4, 32) := by kernel_rfl
def RAns (w w' : World) (e : Ending) (l : List tm.T) : Prop := ∃ o cap, e = .returned (.slice o l.length cap) ∧ ROwn w' w.heap.size (.slice o l.length cap) l ∧ Below w.heap.size w w'
theorem ROwn.toIn {w : World} {B : Nat} {V : Value} {l : List tm.T} (h : ROwn w B V l) : RIn w (fun k => B ≤ k) V l := RowIn.of_own h (tsC_len l) _ fun g hg => (h.lt g hg).1
theorem RIn.cell {w : World} {D : Nat → Prop} {o : Option Addr} {n cap : Nat} {l : List tm.T} (h : RIn w D (.slice o n cap) l) (k : Nat) (hk : k < l.length) : ∃ b off, o = some ⟨b, off, none⟩ ∧ b < w.heap.size ∧ w.cell? ⟨b, off + k * 4, none⟩ = some (.int .i64 (tm.ix l k).id) ∧ w.cell? ⟨b, off + k * 4 + 1, none⟩ = some (.int .i64 (tm.ix l k).owner) ∧ w.cell? ⟨b, off + k * 4 + 2, none⟩ = some (.int .i64 (tm.ix l k).due) ∧ w.cell? ⟨b, off + k * 4 + 3, none⟩ = some (.int .i64 (tm.ix l k).every) := by
  obtain ⟨b, off, e, -, hb, hc⟩ := h.at_ k hk
  have := fun j hj => tsC_at l k (tm.ix l k) j (tm.ix_at hk) hj
  exact ⟨b, off, e, hb, hc _ _ (this 0 (by decide)), hc _ _ (this 1 (by decide)), hc _ _ (this 2 (by decide)), hc _ _ (this 3 (by decide))⟩
theorem RIn.len {w : World} {D : Nat → Prop} {o : Option Addr} {n cap : Nat} {l : List tm.T} (h : RIn w D (.slice o n cap) l) : n = l.length ∧ n ≤ cap ∧ cap ≤ 9223372036854775807 := by
  obtain ⟨a, b, c⟩ := h.lens
  exact ⟨a, by omega, c⟩
theorem wpList_tm (w0 : World) (t : tm.T) {ops : Array Oper} {rest : List Oper} {op : Oper} {a : Act} {Q : Exit → Act → World → Prop} (hgd : op.guard = none) (s x : Operand)
    (ho : op.op = Op.call { callee := Callee.builtin Builtin.append, args := #[s, x], argTypes := #[26, 26] }) (B : Nat) (V : Value) (l l' : List tm.T) (hl' : l ++ [t] = l') (hs : a.eval s = V) (hown : ROwn w0 B V l)
    (g : Nat) (hg0 : g = w0.heap.size) (hx : a.eval x = .slice (some ⟨g, 0, none⟩) 1 1) (hlen : l.length ≤ 1000) (hB : B ≤ w0.heap.size)
    (h : ∀ V' w', ROwn w' B V' l' → w0.grownBy w' V.ownBlock → wpList Try.prog ops Q rest (a.put op.dst V') w') : wpList Try.prog ops Q (op :: rest) a (w0.alloc (rtO t)) := by
  subst hg0
  subst hl'
  have hb0 := below_one w0 (rtO t)
  have hn := heap_alloc_new w0 (rtO t)
  refine wpList_rows 26 50 4 32 Try.underlying26 infoRT rfl (by decide) hgd s x ho B V l.length (tsC l) hs (row_below hown hb0) (Nat.le_trans hB hb0.size) ⟨w0.heap.size, 0, none⟩ 1 1 (fun _ => True) (tC t) hx ⟨_, _, rfl, Nat.le_refl _, by decide, rfl, .inr ⟨w0.heap.size, 0, rfl, trivial, heap_lt hn, fun k v hv => by rw [cell_of_heap hn, Nat.zero_add]; simpa [tC] using hv⟩⟩ (by decide) (fun u hu => by simp only [tC, List.mem_cons, List.not_mem_nil, or_false] at hu; rcases hu with rfl | rfl | rfl | rfl <;> rfl) (by omega) (by omega) (l ++ [t]).length (by simp) (tsC (l ++ [t])) (by rw [tsC_app]; simp [tsC]) (fun V' w' r1 r2 => h V' w' r1 ⟨r2.os, r2.tape, r2.output, Nat.le_trans hb0.size r2.size, fun k hk hne => (r2.block k (Nat.lt_of_lt_of_le hk hb0.size) hne).trans (hb0.block k hk)⟩)
/-- a row of one's own from B on; all ahead of B stays -/
structure RO (B : Nat) (w0 w : World) (V : Value) (l : List tm.T) : Prop where
  own : ROwn w B V l
  bel : Below B w0 w
theorem RO.push {B : Nat} {w0 w w' : World} {V V' : Value} {l l' : List tm.T} (h : RO B w0 w V l) (hB : B ≤ w.heap.size) (hr : ROwn w' B V' l') (hg : w.grownBy w' V.ownBlock) : RO B w0 w' V' l' :=
  ⟨hr, h.bel.trans ((Below.refl B w).grown hg hB (fun k hk => (h.own.lt k hk).1))⟩
theorem RO.new (w0 w : World) (B : Nat) (hb : Below B w0 w) (hB : B ≤ w.heap.size) : RO B w0 (w.alloc (.cells #[] 50)) (.slice (some ⟨w.heap.size, 0, none⟩) 0 0) [] :=
  ⟨⟨rfl, .inr ⟨w.heap.size, 0, #[], rfl, hB, heap_alloc_new w _, Nat.le_refl _, by decide, rfl, rfl⟩⟩, hb.trans ((below_one w _).mono hB)⟩
theorem bad_any (x : Int) (w : World) : Calls Try.prog 25 #[.int .i64 x] w fun e w' => e = .returned (.bool !(tm.isT x)) ∧ w' = w := by
  have HD : Hid (tm.isT x = decide (0 ≤ x ∧ x ≤ 1099511627776)) := Lib.hid rfl
  generalize tm.isT x = R at *
  by_cases h0 : x < 0
  · obtain rfl : R = false := HD.out.trans (decide_eq_false (by omega))
    clear HD
    go_enter Try.func25, Try.ntmps25
    go_wp2_with fail
    go_ret
    exact ⟨rfl, rfl⟩
  · by_cases h1 : 1099511627776 < x
    · obtain rfl : R = false := HD.out.trans (decide_eq_false (by omega))
      clear HD
      go_enter Try.func25, Try.ntmps25
      go_wp2_with fail
      go_ret
      exact ⟨rfl, rfl⟩
    · obtain rfl : R = true := HD.out.trans (decide_eq_true (by omega))
      clear HD
      go_enter Try.func25, Try.ntmps25
      go_wp2_with fail
      go_ret
      exact ⟨rfl, rfl⟩
set_option maxHeartbeats 400000 in
theorem with_any (o : Option Addr) (n cap : Nat) (l : List tm.T) (t : tm.T) (D : Nat → Prop) (w : World) (h : RIn w D (.slice o n cap) l) (hn : l.length ≤ 512) : Calls Try.prog 26 #[.slice o n cap, tV t] w fun e w' => RAns w w' e (l ++ [t]) := by
  obtain ⟨rfl, hnc, hcm⟩ := h.len
  obtain ⟨LL, hLL⟩ : ∃ LL, l ++ [t] = LL := ⟨_, rfl⟩
  rw [hLL]
  have HFL := Lib.hid hLL
  clear hLL
  have b1 := below_one w (rtO t)
  have a1 := heap_alloc_new w (rtO t)
  obtain ⟨W1, hW1⟩ : ∃ W, w.alloc (rtO t) = W := ⟨_, rfl⟩
  have s1 : W1.heap.size = w.heap.size + 1 := by rw [← hW1]; simp
  rw [hW1] at b1 a1
  have HR := Lib.hid (RO.new W1 W1 (w.heap.size + 1) (Below.refl _ _) (by omega))
  have HA := Lib.hid (And.intro a1 (And.intro (h.below b1) b1))
  rw [s1] at HR
  clear h b1 a1
  go_enter Try.func26, Try.ntmps26
  go_wp2_with fail
  go_loopg [5, 6] l.length (fun gg s5 s6 wr => ∃ (k : Nat) (ao : Option Addr) (ac : Nat), s5 = .slice ao k ac ∧ s6 = .int .i64 k ∧ k ≤ l.length ∧ l.length - k ≤ gg ∧ Hid (RO (w.heap.size + 1) W1 wr (.slice ao k ac) (l.take k)))
  case atStart => exact ⟨0, _, 0, rfl, rfl, Nat.zero_le _, Nat.le_refl _, Lib.hid HR.out⟩
  case round =>
    clear HR
    obtain ⟨k, ao, ac, rfl, rfl, hk, hgg, HX⟩ := hrel
    have hB : w.heap.size + 1 ≤ wr.heap.size := by have := HX.out.bel.size; omega
    have b2 : Below W1.heap.size W1 wr := by rw [s1]; exact HX.out.bel
    by_cases hkl : k < l.length
    · have hki : (k : Int) < (l.length : Int) := by omega
      obtain ⟨b, off, rfl, hb, d0, d1, d2, d3⟩ := RIn.cell (RowIn.below HA.out.2.1 b2) k hkl
      obtain ⟨x, hx⟩ : ∃ x, tm.ix l k = x := ⟨_, rfl⟩
      rw [hx] at d0 d1 d2 d3
      obtain ⟨L, hL⟩ : ∃ L, l.take k = L := ⟨_, rfl⟩
      obtain ⟨LL, hLL⟩ : ∃ LL, L ++ [x] = LL := ⟨_, rfl⟩
      have HLL := Lib.hid (And.intro hLL (show l.take (k + 1) = LL by rw [← hLL, ← hL, ← hx, List.take_add_one, tm.ix_at hkl]; rfl))
      have HLn : Hid (L.length = k) := Lib.hid (by rw [← hL, List.length_take]; omega)
      rw [hL] at HX
      clear hx hL hLL b2
      go_wp2_with (at_builtin; go_loud (refine wpList_tm wr x rfl _ _ rfl (w.heap.size + 1) (.slice ao k ac) L LL HLL.out.1 rfl HX.out.own wr.heap.size rfl rfl (by rw [HLn.out]; omega) hB ?_))
      intro V' w5 r1 r2
      have H5 : Hid (RO (w.heap.size + 1) W1 w5 V' (l.take (k + 1))) := Lib.hid (by rw [HLL.out.2]; exact HX.out.push hB r1 r2)
      obtain ⟨ao', ac', rfl⟩ : ∃ a c, V' = .slice a (k + 1) c := by
        obtain ⟨a, c, e⟩ := own_slice r1
        refine ⟨a, c, e.trans ?_⟩
        rw [← HLL.out.1, List.length_append, HLn.out, List.length_singleton]
      clear r1 r2
      go_wp2_with fail
      go_roundg (l.length - (k + 1))
      case measure => omega
      case rel => exact ⟨k + 1, ao', ac', by go_num, rfl, by omega, Nat.le_refl _, H5⟩
    · obtain rfl : k = l.length := by omega
      have a2 := (b2.block _ (by omega)).trans HA.out.1
      have y0 : wr.cell? ⟨w.heap.size, 0, none⟩ = some (.int .i64 t.id) := (cell_of_heap a2).trans rfl
      have y1 : wr.cell? ⟨w.heap.size, 1, none⟩ = some (.int .i64 t.owner) := (cell_of_heap a2).trans rfl
      have y2 : wr.cell? ⟨w.heap.size, 2, none⟩ = some (.int .i64 t.due) := (cell_of_heap a2).trans rfl
      have y3 : wr.cell? ⟨w.heap.size, 3, none⟩ = some (.int .i64 t.every) := (cell_of_heap a2).trans rfl
      have lx := heap_lt a2
      have HX2 : Hid (RO (w.heap.size + 1) W1 wr (.slice ao l.length ac) l) := Lib.hid (by have := HX.out; rwa [List.take_of_length_le (Nat.le_refl _)] at this)
      clear b2 a2 HX
      go_wp2_with (at_builtin; go_loud (refine wpList_tm wr t rfl _ _ rfl (w.heap.size + 1) (.slice ao l.length ac) l LL HFL.out rfl HX2.out.own wr.heap.size rfl rfl (by omega) hB ?_))
      intro V' w5 r1 r2
      have H5 := Lib.hid (HX2.out.push hB r1 r2)
      obtain ⟨ao', ac', rfl⟩ := own_slice r1
      clear r1 r2
      go_wp2_with fail
      go_ret
      exact ⟨_, _, rfl, own_base H5.out.own (by omega), HA.out.2.2.trans (H5.out.bel.mono (by omega))⟩
/-- the timers but those of a number, or of an owner -/
def tm.wo (id ow : Int) (l : List tm.T) : List tm.T := l.filter fun t => t.id != id && t.owner != ow
theorem tm.wo_take (id ow : Int) (l : List tm.T) (k : Nat) (h : k < l.length) : tm.wo id ow (l.take (k + 1)) = if ((tm.ix l k).id != id && (tm.ix l k).owner != ow) = true then tm.wo id ow (l.take k) ++ [tm.ix l k] else tm.wo id ow (l.take k) := by
  unfold tm.wo
  rw [List.take_add_one, tm.ix_at h, List.filter_append]
  simp only [Option.toList_some, List.filter_cons, List.filter_nil]
  split <;> simp
theorem tm.wo_le (id ow : Int) (l : List tm.T) : (tm.wo id ow l).length ≤ l.length := List.length_filter_le _ _
set_option maxHeartbeats 400000 in
theorem without_any (o : Option Addr) (n cap : Nat) (l : List tm.T) (id ow : Int) (D : Nat → Prop) (w : World) (h : RIn w D (.slice o n cap) l) (hn : l.length ≤ 512) : Calls Try.prog 12 #[.slice o n cap, .int .i64 id, .int .i64 ow] w fun e w' => RAns w w' e (tm.wo id ow l) := by
  obtain ⟨rfl, hnc, hcm⟩ := h.len
  have HR := Lib.hid (RO.new w w w.heap.size (Below.refl _ _) (Nat.le_refl _))
  have HA := Lib.hid h
  clear h
  go_enter Try.func12, Try.ntmps12
  go_wp2_with fail
  go_loopg [7, 8] l.length (fun gg s7 s8 wr => ∃ (k m : Nat) (ao : Option Addr) (ac : Nat), s7 = .slice ao m ac ∧ s8 = .int .i64 k ∧ k ≤ l.length ∧ l.length - k ≤ gg ∧ Hid (RO w.heap.size w wr (.slice ao m ac) (tm.wo id ow (l.take k)) ∧ m = (tm.wo id ow (l.take k)).length))
  case atStart => exact ⟨0, 0, _, 0, rfl, rfl, Nat.zero_le _, Nat.le_refl _, Lib.hid ⟨HR.out, rfl⟩⟩
  case round =>
    clear HR
    obtain ⟨k, m, ao, ac, rfl, rfl, hk, hgg, HX⟩ := hrel
    have hB : w.heap.size ≤ wr.heap.size := HX.out.1.bel.size
    by_cases hkl : k < l.length
    · have hki : (k : Int) < (l.length : Int) := by omega
      obtain ⟨b, off, rfl, hb, d0, d1, d2, d3⟩ := RIn.cell (RowIn.below HA.out HX.out.1.bel) k hkl
      have HT := Lib.hid (tm.wo_take id ow l k hkl)
      have HLn := Lib.hid (show (tm.wo id ow (l.take k)).length ≤ 512 by have := tm.wo_le id ow (l.take k); rw [List.length_take] at this; omega)
      obtain ⟨LL, hLL⟩ : ∃ X, tm.wo id ow (l.take (k + 1)) = X := ⟨_, rfl⟩
      obtain ⟨L, hL⟩ : ∃ X, tm.wo id ow (l.take k) = X := ⟨_, rfl⟩
      rw [hLL, hL] at HT
      rw [hL] at HLn HX
      have HLLe := Lib.hid hLL
      clear hLL hL
      obtain ⟨x, hx⟩ : ∃ x, tm.ix l k = x := ⟨_, rfl⟩
      rw [hx] at d0 d1 d2 d3 HT
      clear hx
      cases h1 : (x.id != id) with
      | false =>
        have HE : Hid (LL = L) := Lib.hid (by have := HT.out; rw [h1] at this; exact this)
        go_wp2_with fail
        go_roundg (l.length - (k + 1))
        case measure => omega
        case rel => exact ⟨k + 1, m, ao, ac, rfl, by go_num, by omega, Nat.le_refl _, Lib.hid (by rw [HLLe.out, HE.out]; exact HX.out)⟩
      | true =>
        cases h2 : (x.owner != ow) with
        | false =>
          have HE : Hid (LL = L) := Lib.hid (by have := HT.out; rw [h1, h2] at this; exact this)
          go_wp2_with fail
          go_roundg (l.length - (k + 1))
          case measure => omega
          case rel => exact ⟨k + 1, m, ao, ac, rfl, by go_num, by omega, Nat.le_refl _, Lib.hid (by rw [HLLe.out, HE.out]; exact HX.out)⟩
        | true =>
          have HE : Hid (L ++ [x] = LL) := Lib.hid (by have := HT.out; rw [h1, h2] at this; exact this.symm)
          go_wp2_with (at_builtin; go_loud (refine wpList_tm wr x rfl _ _ rfl w.heap.size (.slice ao m ac) L LL HE.out rfl HX.out.1.own wr.heap.size rfl rfl (by have := HLn.out; omega) hB ?_))
          intro V' w5 r1 r2
          have H5 := Lib.hid (HX.out.1.push hB r1 r2)
          obtain ⟨ao', ac', rfl⟩ := own_slice r1
          clear r1 r2
          go_wp2_with fail
          go_roundg (l.length - (k + 1))
          case measure => omega
          case rel => exact ⟨k + 1, _, ao', ac', rfl, by go_num, by omega, Nat.le_refl _, Lib.hid (by rw [HLLe.out]; exact ⟨H5.out, rfl⟩)⟩
    · obtain rfl : k = l.length := by omega
      have HX2 : Hid (RO w.heap.size w wr (.slice ao m ac) (tm.wo id ow l) ∧ m = (tm.wo id ow l).length) := Lib.hid (by have := HX.out; rwa [List.take_of_length_le (Nat.le_refl _)] at this)
      clear HX
      go_wp2_with fail
      go_ret
      obtain ⟨h1, rfl⟩ := HX2.out
      exact ⟨_, _, rfl, h1.own, h1.bel⟩
end Go.Proofs.Ytfelmnhhldgobaa
