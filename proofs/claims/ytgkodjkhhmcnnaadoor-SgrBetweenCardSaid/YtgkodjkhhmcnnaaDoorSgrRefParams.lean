/- The document's Params. -/
import Derived.Test.YtgkodjkhhmcnnaaDoorSgrRef
import Derived.Maps.AppendAt
namespace Go.Proofs.YtgkodjkhhmcnnaaDoor.S5
open Go.RowKit

/-- a slice of numbers beside the row that grows -/
structure Lst (wr : World) (v : Value) (o : Option Addr) (n cap : Nat) (zs : List Int) : Prop where
  ints : Ints wr o n cap zs
  away : ∀ a, o = some a → v.ownBlock ≠ some a.block ∧ a.block < wr.heap.size
theorem Lst.new {wr W : World} {v : Value} {o : Option Addr} {n cap : Nat} {zs : List Int} (h : Lst wr v o n cap zs) (hb : Below wr.heap.size wr W) : Lst W v o n cap zs :=
  ⟨h.ints.below hb, fun a ha => ⟨(h.away a ha).1, Nat.lt_of_lt_of_le (h.away a ha).2 hb.size⟩⟩
theorem Lst.grow {wr w2 : World} {v v' : Value} {o : Option Addr} {n cap : Nat} {zs : List Int} (h : Lst wr v o n cap zs) (hg : wr.grownBy w2 v.ownBlock) (hv : v'.ownBlock = v.ownBlock ∨ v'.ownBlock = some wr.heap.size) : Lst w2 v' o n cap zs := by
  have hk : Kept wr w2 (fun k => v.ownBlock = some k) := (Kept.refl wr _).grown hg (fun k hk _ => hk)
  refine ⟨h.ints.same (fun k hk' off ho => hk.block k hk' (fun e => (h.away _ ho).1 e)) hk.size, fun a ha => ⟨fun e => ?_, Nat.lt_of_lt_of_le (h.away a ha).2 hk.size⟩⟩
  rcases hv with hv | hv
  · exact (h.away a ha).1 (hv.symm.trans e)
  · rw [hv] at e
    have := (h.away a ha).2
    injection e with e
    omega
/-- one number behind a row of the call's own, and where the row lies then -/
theorem wpList_append_one {P : Program} {w : World} {ops : Array Oper} {rest : List Oper} {op : Oper} {a : Act} {Q : Exit → Act → World → Prop} (hgd : op.guard = none) (s x : Operand) (t : TypeId)
    (ho : op.op = .call { callee := .builtin .append, args := #[s, x], argTypes := #[t, t] })
    (base : Nat) (e : TypeId) (i : TypeInfo) (z : Value) (ht : P.underlying t = some (.slice e)) (hi : P.info? e = some i) (hz : i.zero = some z)
    (hsize : i.size = 1) (hby : i.bytes = 8) (hzs : z.cells.size = 1) (v : Value) (n : Nat) (xs : List Int) (hs : a.eval s = v) (hown : w.ownsRow base e 1 v n (xs.map (Value.int .i64)))
    (ad : Addr) (y : Int) (hx : a.eval x = .slice (some ad) 1 1) (hc : w.cell? ad = some (.int .i64 y)) (hnm : n ≤ 1000000) (hbase : base ≤ w.heap.size)
    (h : ∀ v' w', w'.ownsRow base e 1 v' (n + 1) ((xs ++ [y]).map (Value.int .i64)) → w.grownBy w' v.ownBlock → (v'.ownBlock = v.ownBlock ∨ v'.ownBlock = some w.heap.size) → wpList P ops Q rest (a.put op.dst v') w') : wpList P ops Q (op :: rest) a w := by
  refine wpList_plain hgd fun K hK => ?_
  obtain ⟨v', w', hr, h2, h3, _, h5⟩ := run_append_own_at (P := P) w base t op.type e i z 1 8 ht hi hz hsize hby hzs (by decide) v n _ hown ad 1 1 [.int .i64 y] rfl (by
    intro j u hu
    match j, hu with
    | 0, hu => simp at hu; subst hu; rw [addr_add0]; exact hc) (by intro u hu; simp at hu; subst hu; rfl) (by unfold maxLen; omega) (by omega) hbase
  unfold Oper.wp execOp
  simp only [ho, resolve, invoke, builtin, Sem.run_bind, Sem.run_pure, Result.andThen_ok, List.map_toArray, List.map_cons, List.map_nil, hs, hx, hr]
  exact hK _ _ (h v' w' (by rw [List.map_append]; exact h2) h3 h5)
theorem new_one' (wr : World) (x : Int) : Ints (wr.alloc (.cells #[.int .i64 x] 3)) (some ⟨wr.heap.size, 0, none⟩) 1 1 [x] := by
  have := Ints.new wr 3 [x] (by simp)
  simpa using this
theorem new_cell (wr : World) (x : Int) : (wr.alloc (.cells #[.int .i64 x] 3)).cell? ⟨wr.heap.size, 0, none⟩ = some (.int .i64 x) := by
  obtain ⟨b, off, e, _, hc⟩ := (new_one' wr x).all (by decide)
  cases e
  exact hc 0 (by decide)
/-- the two tables in new memory -/
theorem tabs_new (W : World) (v : Value) (hv : ∀ k, v.ownBlock = some k → k < W.heap.size) : Lst ((W.alloc (.cells #[.int .i64 1, .int .i64 2, .int .i64 3, .int .i64 4, .int .i64 7] 3)).alloc (.cells #[.int .i64 1, .int .i64 2, .int .i64 4, .int .i64 8, .int .i64 16] 3)) v (some ⟨W.heap.size, 0, none⟩) 5 5 [1, 2, 3, 4, 7] ∧
    Lst ((W.alloc (.cells #[.int .i64 1, .int .i64 2, .int .i64 3, .int .i64 4, .int .i64 7] 3)).alloc (.cells #[.int .i64 1, .int .i64 2, .int .i64 4, .int .i64 8, .int .i64 16] 3)) v (some ⟨W.heap.size + 1, 0, none⟩) 5 5 [1, 2, 4, 8, 16] := by
  have n1 := (Ints.new W 3 [1, 2, 3, 4, 7] (by simp)).below (below_one _ (.cells #[.int .i64 1, .int .i64 2, .int .i64 4, .int .i64 8, .int .i64 16] 3))
  have n2 := Ints.new (W.alloc (.cells #[.int .i64 1, .int .i64 2, .int .i64 3, .int .i64 4, .int .i64 7] 3)) 3 [1, 2, 4, 8, 16] (by simp)
  have e : (W.alloc (.cells #[.int .i64 1, .int .i64 2, .int .i64 3, .int .i64 4, .int .i64 7] 3)).heap.size = W.heap.size + 1 := by simp
  rw [e] at n2
  refine ⟨⟨n1, fun a ha => ?_⟩, ⟨n2, fun a ha => ?_⟩⟩
  · cases ha
    exact ⟨fun h => by have := hv _ h; simp at this, by simp; omega⟩
  · cases ha
    exact ⟨fun h => by have := hv _ h; simp at this; omega, by simp⟩

theorem below_da (wr : World) (nq : Nat) (o : Obj) : Below wr.heap.size wr ((wr.drewN nq).alloc o) := (below_drewN (Below.refl _ _) nq).alloc (Nat.le_refl _) o
theorem below_d (wr : World) (nq : Nat) : Below wr.heap.size wr (wr.drewN nq) := below_drewN (Below.refl _ _) nq
theorem Lst.fresh {w wr w3 : World} {B : Nat} {v : Value} {xs zs : List Int} {s : sg.St} {o : Option Addr} {n cap : Nat} (h : PR w wr B v xs s) (hi : Ints w3 o n cap zs) (ha : ∀ a, o = some a → wr.heap.size ≤ a.block ∧ a.block < w3.heap.size) : Lst w3 v o n cap zs :=
  ⟨hi, fun a he => ⟨fun e => by have := h.row.lt _ e; have := ha a he; omega, (ha a he).2⟩⟩
theorem Lst.cell {wr : World} {v : Value} {o : Option Addr} {n cap : Nat} {zs : List Int} (h : Lst wr v o n cap zs) {k : Nat} (hk : k < n) : ∃ b off, o = some ⟨b, off, none⟩ ∧ b < wr.heap.size ∧ wr.cell? ⟨b, off + k, none⟩ = some (.int .i64 (zs.getD k 0)) := h.ints.cell hk
theorem take_snoc' (F : List Int) (k : Nat) (h : k < F.length) : F.take (k + 1) = F.take k ++ [F.getD k 0] := by
  rw [List.take_succ_eq_append_getElem h]; simp [List.getD, h]

set_option maxRecDepth 100000 in
set_option maxHeartbeats 1600000 in
theorem refParams_any (f g a : Int) (w : World) :
    Calls Tryd.prog 26 #[.agg #[.int .i64 f, .int .i64 g, .int .i64 a]] w (Gives w (sg.params ⟨f, g, a⟩)) := by
  obtain ⟨i0, hi, hz0, hz1, hz2⟩ := info_parts infoE
  have HR : Hid (sg.params ⟨f, g, a⟩ = 0 :: sg.marksP (sg.known ⟨f, g, a⟩).at_ ++ sg.colourP (sg.known ⟨f, g, a⟩).fg 30 ++ sg.colourP (sg.known ⟨f, g, a⟩).bg 40) := Lib.hid rfl
  generalize hB : w.heap.size = B at *
  have HB := Lib.hid hB; clear hB
  generalize sg.params ⟨f, g, a⟩ = R at *
  go_enter Tryd.func26, Tryd.ntmps26
  go_wp2_with fail
  refine (clean_any _ _ _ _).mono ?_
  rintro e w1 ⟨rfl, hb⟩
  obtain ⟨s0, hbl⟩ := one_after (s := ⟨f, g, a⟩) hb
  clear hb
  rw [HB.out] at s0 hbl ⊢
  have hrt := sg.right_known ⟨f, g, a⟩
  generalize sg.known ⟨f, g, a⟩ = s at *
  obtain ⟨k0, k1, k2, f0, f1, f2, u0⟩ := s0.cells
  have HAT := Lib.hid (at_of_right hrt)
  have HP : Hid (PR w ((((w1.setCell ⟨B, 0, none⟩ (.int .i64 s.fg)).setCell ⟨B, 1, none⟩ (.int .i64 s.bg)).setCell ⟨B, 2, none⟩ (.int .i64 s.at_)).alloc (.cells #[.int .i64 0] 3)) B (.slice (some ⟨w1.heap.size, 0, none⟩) 1 1) [0] s) := by
    refine Lib.hid ⟨?_, ?_, ?_⟩
    · have := Row.new (((w1.setCell ⟨B, 0, none⟩ (.int .i64 s.fg)).setCell ⟨B, 1, none⟩ (.int .i64 s.bg)).setCell ⟨B, 2, none⟩ (.int .i64 s.at_)) [0] (by simp)
      have h3 := own_base (base' := B + 1) this (by simp; omega)
      simp only [World.size_setCell] at h3
      exact h3
    · exact (st_set3 s0 _ _ _).kept ((Kept.refl _ (fun _ => False)).alloc _) (fun h => h)
    · exact ((below_set3 hbl (Nat.le_refl _) _ _ _).alloc (by simp; omega) _)
  have HRT := Lib.hid hrt
  clear s0 hbl hrt
  go_wp2_with fail
  refine (marks_any _).mono ?_
  rintro e w2 ⟨rfl, rfl⟩
  go_wp2_with fail
  have HL : Hid (Lst (((((((w1.setCell ⟨B, 0, none⟩ (.int .i64 s.fg)).setCell ⟨B, 1, none⟩ (.int .i64 s.bg)).setCell ⟨B, 2, none⟩ (.int .i64 s.at_)).alloc (.cells #[.int .i64 0] 3))).alloc (.cells #[.int .i64 1, .int .i64 2, .int .i64 3, .int .i64 4, .int .i64 7] 3)).alloc (.cells #[.int .i64 1, .int .i64 2, .int .i64 4, .int .i64 8, .int .i64 16] 3)) (.slice (some ⟨w1.heap.size, 0, none⟩) 1 1) (some ⟨w1.heap.size + 1, 0, none⟩) 5 5 [1, 2, 3, 4, 7] ∧ Lst (((((((w1.setCell ⟨B, 0, none⟩ (.int .i64 s.fg)).setCell ⟨B, 1, none⟩ (.int .i64 s.bg)).setCell ⟨B, 2, none⟩ (.int .i64 s.at_)).alloc (.cells #[.int .i64 0] 3))).alloc (.cells #[.int .i64 1, .int .i64 2, .int .i64 3, .int .i64 4, .int .i64 7] 3)).alloc (.cells #[.int .i64 1, .int .i64 2, .int .i64 4, .int .i64 8, .int .i64 16] 3)) (.slice (some ⟨w1.heap.size, 0, none⟩) 1 1) (some ⟨w1.heap.size + 1 + 1, 0, none⟩) 5 5 [1, 2, 4, 8, 16]) := by
    have h := tabs_new ((((w1.setCell ⟨B, 0, none⟩ (.int .i64 s.fg)).setCell ⟨B, 1, none⟩ (.int .i64 s.bg)).setCell ⟨B, 2, none⟩ (.int .i64 s.at_)).alloc (.cells #[.int .i64 0] 3)) (.slice (some ⟨w1.heap.size, 0, none⟩) 1 1) (fun k hk => (HP.out.row.lt k hk).2)
    have e : ((((w1.setCell ⟨B, 0, none⟩ (.int .i64 s.fg)).setCell ⟨B, 1, none⟩ (.int .i64 s.bg)).setCell ⟨B, 2, none⟩ (.int .i64 s.at_)).alloc (.cells #[.int .i64 0] 3)).heap.size = w1.heap.size + 1 := by simp
    rw [e] at h
    exact Lib.hid h
  have HP0 := Lib.hid (HP.out.new (below_two _ (.cells #[.int .i64 1, .int .i64 2, .int .i64 3, .int .i64 4, .int .i64 7] 3) (.cells #[.int .i64 1, .int .i64 2, .int .i64 4, .int .i64 8, .int .i64 16] 3)))
  clear k0 k1 k2 f0 f1 f2 u0
  go_loopg [3, 6] 5 (fun gg s3 s6 wr => ∃ (k : Nat) (z : Int) (o : Option Addr) (n cap : Nat), s3 = .slice o n cap ∧ s6 = .int .i64 z ∧ z = k ∧ k ≤ 5 ∧ 5 - k ≤ gg ∧ Hid (n = ((0 : Int) :: marksUp s.at_ k).length) ∧ Hid (PR w wr B (.slice o n cap) (0 :: marksUp s.at_ k) s) ∧ Hid (Lst wr (.slice o n cap) (some ⟨w1.heap.size + 1, 0, none⟩) 5 5 [1, 2, 3, 4, 7] ∧ Lst wr (.slice o n cap) (some ⟨w1.heap.size + 1 + 1, 0, none⟩) 5 5 [1, 2, 4, 8, 16]))
  case atStart => exact ⟨0, 0, _, _, _, rfl, rfl, rfl, by omega, by omega, Lib.hid rfl, HP0, HL⟩
  case round =>
    obtain ⟨k, z, o, n, cap, rfl, rfl, hz, hk, hgg, HN, HPR, HLL⟩ := hrel
    clear HP HP0 HL
    obtain ⟨k0, k1, k2, f0, f1, f2, u0⟩ := HPR.out.st.cells
    have hrl := row_len s.at_ k
    have HRL := Lib.hid hrl; clear hrl
    by_cases hlt : k < 5
    · obtain rfl | rfl | rfl | rfl | rfl : k = 0 ∨ k = 1 ∨ k = 2 ∨ k = 3 ∨ k = 4 := by omega
      · have hz2 : z = 0 := by omega
        clear hz; subst hz2
        have hup : marksUp s.at_ 1 = marksUp s.at_ 0 ++ (if sg.has s.at_ 1 then [1] else []) := rfl
        have n0 : wr.cell? ⟨w1.heap.size + 1, 0, none⟩ = some (.int .i64 1) := by obtain ⟨b, off, e, _, hc⟩ := HLL.out.1.cell (k := 0) (by decide); cases e; exact hc
        have m0 : wr.cell? ⟨w1.heap.size + 1 + 1, 0, none⟩ = some (.int .i64 1) := by obtain ⟨b, off, e, _, hc⟩ := HLL.out.2.cell (k := 0) (by decide); cases e; exact hc
        have HH := Lib.hid (fun W => has_any s.at_ 1 W HAT.out.1 HAT.out.2 (by omega))
        generalize sg.has s.at_ 1 = h at *
        have HU := Lib.hid hup
        clear hup
        go_wp2_with fail
        go_region_with (go_at_call 47; refine (HH.out _).mono ?_; rintro e w' ⟨rfl, rfl⟩)
        all_goals
        cases h
        · rw [if_neg (by decide), List.append_nil] at HU
          go_wp2_with fail
          go_roundg (5 - 1)
          case measure => omega
          case rel => exact ⟨1, 1, o, n, cap, rfl, rfl, rfl, by omega, Nat.le_refl _, by rw [HU.out]; exact HN, Lib.hid (by rw [HU.out]; exact HPR.out.new (below_d wr 1)), Lib.hid ⟨HLL.out.1.new (below_d wr 1), HLL.out.2.new (below_d wr 1)⟩⟩
        · rw [if_pos rfl] at HU
          go_wp2_with (at_builtin; refine wpList_append_one rfl _ _ 43 rfl (B + 1) 3 i0 (Value.int .i64 0) Tryd.underlying43 hi hz0 hz1 hz2 rfl (.slice o n cap) n (0 :: marksUp s.at_ 0) rfl ?c1 ⟨wr.heap.size, 0, none⟩ 1 rfl (new_cell (wr.drewN 1) 1) ?c2 ?c3 ?_)
          case c1 => exact (HPR.out.new (below_da wr 1 _)).own HN.out
          case c2 => have := HN.out; have := HRL.out; omega
          case c3 => simp; omega
          intro v' w2 hr2 hg2 hv2
          have HPR2 := Lib.hid ((HPR.out.new (below_da wr 1 _)).grow (ys := 0 :: marksUp s.at_ 0 ++ [1]) (v' := v') (m := n + 1) hg2 (by rw [List.length_append, ← HN.out]; rfl) (by simpa using hr2))
          have HL2 := Lib.hid (And.intro ((HLL.out.1.new (below_da wr 1 (.cells #[.int .i64 1] 3))).grow hg2 (by simpa using hv2)) ((HLL.out.2.new (below_da wr 1 (.cells #[.int .i64 1] 3))).grow hg2 (by simpa using hv2)))
          obtain ⟨o', cap', hv', _⟩ := HPR2.out.row.slice
          subst hv'
          clear hr2 hg2 hv2
          go_wp2_with fail
          go_roundg (5 - 1)
          case measure => omega
          case rel => exact ⟨1, 1, o', _, cap', rfl, rfl, rfl, by omega, Nat.le_refl _, Lib.hid (by rw [HU.out]; rfl), Lib.hid (by rw [HU.out]; exact HPR2.out), HL2⟩
      · have hz2 : z = 1 := by omega
        clear hz; subst hz2
        have hup : marksUp s.at_ 2 = marksUp s.at_ 1 ++ (if sg.has s.at_ 2 then [2] else []) := rfl
        have n0 : wr.cell? ⟨w1.heap.size + 1, 1, none⟩ = some (.int .i64 2) := by obtain ⟨b, off, e, _, hc⟩ := HLL.out.1.cell (k := 1) (by decide); cases e; exact hc
        have m0 : wr.cell? ⟨w1.heap.size + 1 + 1, 1, none⟩ = some (.int .i64 2) := by obtain ⟨b, off, e, _, hc⟩ := HLL.out.2.cell (k := 1) (by decide); cases e; exact hc
        have HH := Lib.hid (fun W => has_any s.at_ 2 W HAT.out.1 HAT.out.2 (by omega))
        generalize sg.has s.at_ 2 = h at *
        have HU := Lib.hid hup
        clear hup
        go_wp2_with fail
        go_region_with (go_at_call 47; refine (HH.out _).mono ?_; rintro e w' ⟨rfl, rfl⟩)
        all_goals
        cases h
        · rw [if_neg (by decide), List.append_nil] at HU
          go_wp2_with fail
          go_roundg (5 - 2)
          case measure => omega
          case rel => exact ⟨2, 2, o, n, cap, rfl, rfl, rfl, by omega, Nat.le_refl _, by rw [HU.out]; exact HN, Lib.hid (by rw [HU.out]; exact HPR.out.new (below_d wr 1)), Lib.hid ⟨HLL.out.1.new (below_d wr 1), HLL.out.2.new (below_d wr 1)⟩⟩
        · rw [if_pos rfl] at HU
          go_wp2_with (at_builtin; refine wpList_append_one rfl _ _ 43 rfl (B + 1) 3 i0 (Value.int .i64 0) Tryd.underlying43 hi hz0 hz1 hz2 rfl (.slice o n cap) n (0 :: marksUp s.at_ 1) rfl ?c1 ⟨wr.heap.size, 0, none⟩ 2 rfl (new_cell (wr.drewN 1) 2) ?c2 ?c3 ?_)
          case c1 => exact (HPR.out.new (below_da wr 1 _)).own HN.out
          case c2 => have := HN.out; have := HRL.out; omega
          case c3 => simp; omega
          intro v' w2 hr2 hg2 hv2
          have HPR2 := Lib.hid ((HPR.out.new (below_da wr 1 _)).grow (ys := 0 :: marksUp s.at_ 1 ++ [2]) (v' := v') (m := n + 1) hg2 (by rw [List.length_append, ← HN.out]; rfl) (by simpa using hr2))
          have HL2 := Lib.hid (And.intro ((HLL.out.1.new (below_da wr 1 (.cells #[.int .i64 2] 3))).grow hg2 (by simpa using hv2)) ((HLL.out.2.new (below_da wr 1 (.cells #[.int .i64 2] 3))).grow hg2 (by simpa using hv2)))
          obtain ⟨o', cap', hv', _⟩ := HPR2.out.row.slice
          subst hv'
          clear hr2 hg2 hv2
          go_wp2_with fail
          go_roundg (5 - 2)
          case measure => omega
          case rel => exact ⟨2, 2, o', _, cap', rfl, rfl, rfl, by omega, Nat.le_refl _, Lib.hid (by rw [HU.out]; rfl), Lib.hid (by rw [HU.out]; exact HPR2.out), HL2⟩
      · have hz2 : z = 2 := by omega
        clear hz; subst hz2
        have hup : marksUp s.at_ 3 = marksUp s.at_ 2 ++ (if sg.has s.at_ 4 then [3] else []) := rfl
        have n0 : wr.cell? ⟨w1.heap.size + 1, 2, none⟩ = some (.int .i64 3) := by obtain ⟨b, off, e, _, hc⟩ := HLL.out.1.cell (k := 2) (by decide); cases e; exact hc
        have m0 : wr.cell? ⟨w1.heap.size + 1 + 1, 2, none⟩ = some (.int .i64 4) := by obtain ⟨b, off, e, _, hc⟩ := HLL.out.2.cell (k := 2) (by decide); cases e; exact hc
        have HH := Lib.hid (fun W => has_any s.at_ 4 W HAT.out.1 HAT.out.2 (by omega))
        generalize sg.has s.at_ 4 = h at *
        have HU := Lib.hid hup
        clear hup
        go_wp2_with fail
        go_region_with (go_at_call 47; refine (HH.out _).mono ?_; rintro e w' ⟨rfl, rfl⟩)
        all_goals
        cases h
        · rw [if_neg (by decide), List.append_nil] at HU
          go_wp2_with fail
          go_roundg (5 - 3)
          case measure => omega
          case rel => exact ⟨3, 3, o, n, cap, rfl, rfl, rfl, by omega, Nat.le_refl _, by rw [HU.out]; exact HN, Lib.hid (by rw [HU.out]; exact HPR.out.new (below_d wr 1)), Lib.hid ⟨HLL.out.1.new (below_d wr 1), HLL.out.2.new (below_d wr 1)⟩⟩
        · rw [if_pos rfl] at HU
          go_wp2_with (at_builtin; refine wpList_append_one rfl _ _ 43 rfl (B + 1) 3 i0 (Value.int .i64 0) Tryd.underlying43 hi hz0 hz1 hz2 rfl (.slice o n cap) n (0 :: marksUp s.at_ 2) rfl ?c1 ⟨wr.heap.size, 0, none⟩ 3 rfl (new_cell (wr.drewN 1) 3) ?c2 ?c3 ?_)
          case c1 => exact (HPR.out.new (below_da wr 1 _)).own HN.out
          case c2 => have := HN.out; have := HRL.out; omega
          case c3 => simp; omega
          intro v' w2 hr2 hg2 hv2
          have HPR2 := Lib.hid ((HPR.out.new (below_da wr 1 _)).grow (ys := 0 :: marksUp s.at_ 2 ++ [3]) (v' := v') (m := n + 1) hg2 (by rw [List.length_append, ← HN.out]; rfl) (by simpa using hr2))
          have HL2 := Lib.hid (And.intro ((HLL.out.1.new (below_da wr 1 (.cells #[.int .i64 3] 3))).grow hg2 (by simpa using hv2)) ((HLL.out.2.new (below_da wr 1 (.cells #[.int .i64 3] 3))).grow hg2 (by simpa using hv2)))
          obtain ⟨o', cap', hv', _⟩ := HPR2.out.row.slice
          subst hv'
          clear hr2 hg2 hv2
          go_wp2_with fail
          go_roundg (5 - 3)
          case measure => omega
          case rel => exact ⟨3, 3, o', _, cap', rfl, rfl, rfl, by omega, Nat.le_refl _, Lib.hid (by rw [HU.out]; rfl), Lib.hid (by rw [HU.out]; exact HPR2.out), HL2⟩
      · have hz2 : z = 3 := by omega
        clear hz; subst hz2
        have hup : marksUp s.at_ 4 = marksUp s.at_ 3 ++ (if sg.has s.at_ 8 then [4] else []) := rfl
        have n0 : wr.cell? ⟨w1.heap.size + 1, 3, none⟩ = some (.int .i64 4) := by obtain ⟨b, off, e, _, hc⟩ := HLL.out.1.cell (k := 3) (by decide); cases e; exact hc
        have m0 : wr.cell? ⟨w1.heap.size + 1 + 1, 3, none⟩ = some (.int .i64 8) := by obtain ⟨b, off, e, _, hc⟩ := HLL.out.2.cell (k := 3) (by decide); cases e; exact hc
        have HH := Lib.hid (fun W => has_any s.at_ 8 W HAT.out.1 HAT.out.2 (by omega))
        generalize sg.has s.at_ 8 = h at *
        have HU := Lib.hid hup
        clear hup
        go_wp2_with fail
        go_region_with (go_at_call 47; refine (HH.out _).mono ?_; rintro e w' ⟨rfl, rfl⟩)
        all_goals
        cases h
        · rw [if_neg (by decide), List.append_nil] at HU
          go_wp2_with fail
          go_roundg (5 - 4)
          case measure => omega
          case rel => exact ⟨4, 4, o, n, cap, rfl, rfl, rfl, by omega, Nat.le_refl _, by rw [HU.out]; exact HN, Lib.hid (by rw [HU.out]; exact HPR.out.new (below_d wr 1)), Lib.hid ⟨HLL.out.1.new (below_d wr 1), HLL.out.2.new (below_d wr 1)⟩⟩
        · rw [if_pos rfl] at HU
          go_wp2_with (at_builtin; refine wpList_append_one rfl _ _ 43 rfl (B + 1) 3 i0 (Value.int .i64 0) Tryd.underlying43 hi hz0 hz1 hz2 rfl (.slice o n cap) n (0 :: marksUp s.at_ 3) rfl ?c1 ⟨wr.heap.size, 0, none⟩ 4 rfl (new_cell (wr.drewN 1) 4) ?c2 ?c3 ?_)
          case c1 => exact (HPR.out.new (below_da wr 1 _)).own HN.out
          case c2 => have := HN.out; have := HRL.out; omega
          case c3 => simp; omega
          intro v' w2 hr2 hg2 hv2
          have HPR2 := Lib.hid ((HPR.out.new (below_da wr 1 _)).grow (ys := 0 :: marksUp s.at_ 3 ++ [4]) (v' := v') (m := n + 1) hg2 (by rw [List.length_append, ← HN.out]; rfl) (by simpa using hr2))
          have HL2 := Lib.hid (And.intro ((HLL.out.1.new (below_da wr 1 (.cells #[.int .i64 4] 3))).grow hg2 (by simpa using hv2)) ((HLL.out.2.new (below_da wr 1 (.cells #[.int .i64 4] 3))).grow hg2 (by simpa using hv2)))
          obtain ⟨o', cap', hv', _⟩ := HPR2.out.row.slice
          subst hv'
          clear hr2 hg2 hv2
          go_wp2_with fail
          go_roundg (5 - 4)
          case measure => omega
          case rel => exact ⟨4, 4, o', _, cap', rfl, rfl, rfl, by omega, Nat.le_refl _, Lib.hid (by rw [HU.out]; rfl), Lib.hid (by rw [HU.out]; exact HPR2.out), HL2⟩
      · have hz2 : z = 4 := by omega
        clear hz; subst hz2
        have hup : marksUp s.at_ 5 = marksUp s.at_ 4 ++ (if sg.has s.at_ 16 then [7] else []) := rfl
        have n0 : wr.cell? ⟨w1.heap.size + 1, 4, none⟩ = some (.int .i64 7) := by obtain ⟨b, off, e, _, hc⟩ := HLL.out.1.cell (k := 4) (by decide); cases e; exact hc
        have m0 : wr.cell? ⟨w1.heap.size + 1 + 1, 4, none⟩ = some (.int .i64 16) := by obtain ⟨b, off, e, _, hc⟩ := HLL.out.2.cell (k := 4) (by decide); cases e; exact hc
        have HH := Lib.hid (fun W => has_any s.at_ 16 W HAT.out.1 HAT.out.2 (by omega))
        generalize sg.has s.at_ 16 = h at *
        have HU := Lib.hid hup
        clear hup
        go_wp2_with fail
        go_region_with (go_at_call 47; refine (HH.out _).mono ?_; rintro e w' ⟨rfl, rfl⟩)
        all_goals
        cases h
        · rw [if_neg (by decide), List.append_nil] at HU
          go_wp2_with fail
          go_roundg (5 - 5)
          case measure => omega
          case rel => exact ⟨5, 5, o, n, cap, rfl, rfl, rfl, by omega, Nat.le_refl _, by rw [HU.out]; exact HN, Lib.hid (by rw [HU.out]; exact HPR.out.new (below_d wr 1)), Lib.hid ⟨HLL.out.1.new (below_d wr 1), HLL.out.2.new (below_d wr 1)⟩⟩
        · rw [if_pos rfl] at HU
          go_wp2_with (at_builtin; refine wpList_append_one rfl _ _ 43 rfl (B + 1) 3 i0 (Value.int .i64 0) Tryd.underlying43 hi hz0 hz1 hz2 rfl (.slice o n cap) n (0 :: marksUp s.at_ 4) rfl ?c1 ⟨wr.heap.size, 0, none⟩ 7 rfl (new_cell (wr.drewN 1) 7) ?c2 ?c3 ?_)
          case c1 => exact (HPR.out.new (below_da wr 1 _)).own HN.out
          case c2 => have := HN.out; have := HRL.out; omega
          case c3 => simp; omega
          intro v' w2 hr2 hg2 hv2
          have HPR2 := Lib.hid ((HPR.out.new (below_da wr 1 _)).grow (ys := 0 :: marksUp s.at_ 4 ++ [7]) (v' := v') (m := n + 1) hg2 (by rw [List.length_append, ← HN.out]; rfl) (by simpa using hr2))
          have HL2 := Lib.hid (And.intro ((HLL.out.1.new (below_da wr 1 (.cells #[.int .i64 7] 3))).grow hg2 (by simpa using hv2)) ((HLL.out.2.new (below_da wr 1 (.cells #[.int .i64 7] 3))).grow hg2 (by simpa using hv2)))
          obtain ⟨o', cap', hv', _⟩ := HPR2.out.row.slice
          subst hv'
          clear hr2 hg2 hv2
          go_wp2_with fail
          go_roundg (5 - 5)
          case measure => omega
          case rel => exact ⟨5, 5, o', _, cap', rfl, rfl, rfl, by omega, Nat.le_refl _, Lib.hid (by rw [HU.out]; rfl), Lib.hid (by rw [HU.out]; exact HPR2.out), HL2⟩
    · obtain rfl : k = 5 := by omega
      have hz2 : z = 5 := by omega
      clear hz; subst hz2
      rw [marksUp_all] at HN HPR HRL
      have hc1 := HRT.out
      simp only [sg.right, Bool.and_eq_true] at hc1
      have HC := Lib.hid hc1; clear hc1 hlt hgg hk HLL
      have hnn : n ≤ 6 := by rw [HN.out]; exact HRL.out
      have HN3 := HN; have HPR3 := HPR
      clear HN HPR
      go_wp2_with fail
      refine (numbers_any _ _ _ HC.out.1.1.1 (by decide)).mono ?_
      rintro e w3 ⟨o3, n3, c3, rfl, hi3, hb3, ha3⟩
      have HLF3 := Lib.hid (Lst.fresh HPR3.out hi3 ha3)
      have HQ3 := Lib.hid (HPR3.out.new hb3)
      have hF3 : n3 = (sg.colourP s.fg 30).length := hi3.len.symm
      have hF5 := sg.colourP_len s.fg 30
      have hcc3 := hi3.le
      have hcm3 : c3 ≤ 9223372036854775807 := hi3.max
      have HF3 := Lib.hid hF3
      have hn53 : n3 ≤ 5 := by omega
      clear hi3 hb3 ha3 hF3 hF5 k0 k1 k2 f0 f1 f2 u0
      go_wp2_with fail
      go_loopg [3, 8] n3 (fun gg s3 s8 wr => ∃ (k : Nat) (o : Option Addr) (n cap : Nat), s3 = .slice o n cap ∧ s8 = .int .i64 k ∧ k ≤ n3 ∧ n3 - k ≤ gg ∧ n ≤ 6 + k ∧ Hid (n = ((0 :: sg.marksP s.at_) ++ (sg.colourP s.fg 30).take k).length) ∧ Hid (PR w wr B (.slice o n cap) ((0 :: sg.marksP s.at_) ++ (sg.colourP s.fg 30).take k) s) ∧ Hid (Lst wr (.slice o n cap) o3 n3 c3 (sg.colourP s.fg 30)))
      case atStart => exact ⟨0, _, _, _, rfl, rfl, Nat.zero_le _, by omega, by omega, Lib.hid (by simpa using HN3.out), Lib.hid (by simpa using HQ3.out), HLF3⟩
      case round =>
      obtain ⟨k, o, n, cap, rfl, rfl, hk, hgg, hnb, HN, HPR, HLL⟩ := hrel
      clear HQ3 HLF3
      obtain ⟨k0, k1, k2, f0, f1, f2, u0⟩ := HPR.out.st.cells
      by_cases hlt : k < n3
      · obtain ⟨vb, off, hob, hvb, hc⟩ := HLL.out.cell hlt
        subst hob
        have hsn := take_snoc' (sg.colourP s.fg 30) k (by rw [← HF3.out]; exact hlt)
        generalize (sg.colourP s.fg 30).getD k 0 = x at *
        have HSN := Lib.hid hsn; clear hsn
        have hki : ((k : Int) < (n3 : Int)) := by omega
        go_wp2_with (at_builtin; refine wpList_append_one rfl _ _ 43 rfl (B + 1) 3 i0 (Value.int .i64 0) Tryd.underlying43 hi hz0 hz1 hz2 rfl (.slice o n cap) n ((0 :: sg.marksP s.at_) ++ (sg.colourP s.fg 30).take k) rfl ?c1 ⟨wr.heap.size, 0, none⟩ x rfl (new_cell wr x) ?c2 ?c3 ?_)
        case c1 => exact (HPR.out.new (below_one wr _)).own HN.out
        case c2 => omega
        case c3 => simp; omega
        intro v' w2 hr2 hg2 hv2
        have HPR2 := Lib.hid ((HPR.out.new (below_one wr _)).grow (ys := (0 :: sg.marksP s.at_) ++ (sg.colourP s.fg 30).take k ++ [x]) (v' := v') (m := n + 1) hg2 (by rw [List.length_append, ← HN.out]; rfl) (by simpa using hr2))
        have HL2 := Lib.hid ((HLL.out.new (below_one wr (.cells #[.int .i64 x] 3))).grow hg2 (by simpa using hv2))
        obtain ⟨o', cap', hv', _⟩ := HPR2.out.row.slice
        have hln : ((0 :: sg.marksP s.at_) ++ (sg.colourP s.fg 30).take k ++ [x]).length = n + 1 := by rw [List.length_append, ← HN.out]; rfl
        rw [hln] at hv'
        subst hv'
        have HLN := Lib.hid hln
        clear hr2 hg2 hv2 hln
        go_wp2_with fail
        go_roundg (n3 - (k + 1))
        case measure => omega
        case rel => exact ⟨k + 1, o', n + 1, cap', rfl, by go_num, hlt, Nat.le_refl _, by omega, Lib.hid (by rw [HSN.out, ← List.append_assoc]; exact HLN.out.symm), Lib.hid (by rw [HSN.out, ← List.append_assoc]; exact HPR2.out), HL2⟩
      · obtain rfl : k = n3 := by omega
        have HN4 : Hid (n = ((0 :: sg.marksP s.at_) ++ sg.colourP s.fg 30).length) := Lib.hid (by have := HN.out; rwa [List.take_of_length_le (by rw [HF3.out]; exact Nat.le_refl _)] at this)
        have HPR4 : Hid (PR w wr B (.slice o n cap) ((0 :: sg.marksP s.at_) ++ sg.colourP s.fg 30) s) := Lib.hid (by have := HPR.out; rwa [List.take_of_length_le (by rw [HF3.out]; exact Nat.le_refl _)] at this)
        clear HN HPR HLL hlt hgg hk
        have hnn : n ≤ 11 := by omega
        clear hnb
        go_wp2_with fail
        refine (numbers_any _ _ _ HC.out.1.1.2 (by decide)).mono ?_
        rintro e w4 ⟨o4, n4, c4, rfl, hi4, hb4, ha4⟩
        have HLF4 := Lib.hid (Lst.fresh HPR4.out hi4 ha4)
        have HQ4 := Lib.hid (HPR4.out.new hb4)
        have hF4 : n4 = (sg.colourP s.bg 40).length := hi4.len.symm
        have hF5 := sg.colourP_len s.bg 40
        have hcc4 := hi4.le
        have hcm4 : c4 ≤ 9223372036854775807 := hi4.max
        have HF4 := Lib.hid hF4
        have hn54 : n4 ≤ 5 := by omega
        clear hi4 hb4 ha4 hF4 hF5 k0 k1 k2 f0 f1 f2 u0
        go_wp2_with fail
        go_loopg [3, 10] n4 (fun gg s3 s10 wr => ∃ (k : Nat) (o : Option Addr) (n cap : Nat), s3 = .slice o n cap ∧ s10 = .int .i64 k ∧ k ≤ n4 ∧ n4 - k ≤ gg ∧ n ≤ 11 + k ∧ Hid (n = ((0 :: sg.marksP s.at_ ++ sg.colourP s.fg 30) ++ (sg.colourP s.bg 40).take k).length) ∧ Hid (PR w wr B (.slice o n cap) ((0 :: sg.marksP s.at_ ++ sg.colourP s.fg 30) ++ (sg.colourP s.bg 40).take k) s) ∧ Hid (Lst wr (.slice o n cap) o4 n4 c4 (sg.colourP s.bg 40)))
        case atStart => exact ⟨0, _, _, _, rfl, rfl, Nat.zero_le _, by omega, by omega, Lib.hid (by simpa using HN4.out), Lib.hid (by simpa using HQ4.out), HLF4⟩
        case round =>
        obtain ⟨k, o, n, cap, rfl, rfl, hk, hgg, hnb, HN, HPR, HLL⟩ := hrel
        clear HQ4 HLF4
        obtain ⟨k0, k1, k2, f0, f1, f2, u0⟩ := HPR.out.st.cells
        by_cases hlt : k < n4
        · obtain ⟨vb, off, hob, hvb, hc⟩ := HLL.out.cell hlt
          subst hob
          have hsn := take_snoc' (sg.colourP s.bg 40) k (by rw [← HF4.out]; exact hlt)
          generalize (sg.colourP s.bg 40).getD k 0 = x at *
          have HSN := Lib.hid hsn; clear hsn
          have hki : ((k : Int) < (n4 : Int)) := by omega
          go_wp2_with (at_builtin; refine wpList_append_one rfl _ _ 43 rfl (B + 1) 3 i0 (Value.int .i64 0) Tryd.underlying43 hi hz0 hz1 hz2 rfl (.slice o n cap) n ((0 :: sg.marksP s.at_ ++ sg.colourP s.fg 30) ++ (sg.colourP s.bg 40).take k) rfl ?c1 ⟨wr.heap.size, 0, none⟩ x rfl (new_cell wr x) ?c2 ?c3 ?_)
          case c1 => exact (HPR.out.new (below_one wr _)).own HN.out
          case c2 => omega
          case c3 => simp; omega
          intro v' w2 hr2 hg2 hv2
          have HPR2 := Lib.hid ((HPR.out.new (below_one wr _)).grow (ys := (0 :: sg.marksP s.at_ ++ sg.colourP s.fg 30) ++ (sg.colourP s.bg 40).take k ++ [x]) (v' := v') (m := n + 1) hg2 (by rw [List.length_append, ← HN.out]; rfl) (by simpa using hr2))
          have HL2 := Lib.hid ((HLL.out.new (below_one wr (.cells #[.int .i64 x] 3))).grow hg2 (by simpa using hv2))
          obtain ⟨o', cap', hv', _⟩ := HPR2.out.row.slice
          have hln : ((0 :: sg.marksP s.at_ ++ sg.colourP s.fg 30) ++ (sg.colourP s.bg 40).take k ++ [x]).length = n + 1 := by rw [List.length_append, ← HN.out]; rfl
          rw [hln] at hv'
          subst hv'
          have HLN := Lib.hid hln
          clear hr2 hg2 hv2 hln
          go_wp2_with fail
          go_roundg (n4 - (k + 1))
          case measure => omega
          case rel => exact ⟨k + 1, o', n + 1, cap', rfl, by go_num, hlt, Nat.le_refl _, by omega, Lib.hid (by rw [HSN.out, ← List.append_assoc]; exact HLN.out.symm), Lib.hid (by rw [HSN.out, ← List.append_assoc]; exact HPR2.out), HL2⟩
        · obtain rfl : k = n4 := by omega
          have HN5 : Hid (n = ((0 :: sg.marksP s.at_ ++ sg.colourP s.fg 30) ++ sg.colourP s.bg 40).length) := Lib.hid (by have := HN.out; rwa [List.take_of_length_le (by rw [HF4.out]; exact Nat.le_refl _)] at this)
          have HPR5 : Hid (PR w wr B (.slice o n cap) ((0 :: sg.marksP s.at_ ++ sg.colourP s.fg 30) ++ sg.colourP s.bg 40) s) := Lib.hid (by have := HPR.out; rwa [List.take_of_length_le (by rw [HF4.out]; exact Nat.le_refl _)] at this)
          clear HN HPR HLL hlt hgg hk
          rw [← HR.out] at HPR5
          obtain ⟨o6, cap6, hv6, hi6⟩ := HPR5.out.row.slice
          have hnR : n = R.length := by rw [HN5.out, HR.out]
          rw [← hnR] at hv6 hi6
          obtain ⟨rfl, rfl⟩ : o6 = o ∧ cap6 = cap := by simpa using hv6.symm
          have HG : Hid (Gives w R (.returned (.slice o6 n cap6)) wr) := Lib.hid ⟨_, _, _, rfl, hi6, by rw [HB.out]; exact HPR5.out.bel⟩
          clear hi6 hv6 hnR k0 k1 k2 f0 f1 f2 u0
          go_wp2_with fail
          go_ret
          exact HG.out
end Go.Proofs.YtgkodjkhhmcnnaaDoor.S5
