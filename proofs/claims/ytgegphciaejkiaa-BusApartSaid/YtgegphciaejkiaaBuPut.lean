/- put. -/
import Derived.Test.YtgegphciaejkiaaBuOps2
import Derived.Test.YtgegphciaejkiaaShelf
namespace Go.Proofs.Ytgegphciaejkiaa
open Go.RowKit
namespace bu
def cut (t : ByteArray) : ByteArray := if 64 < t.size then t.extract 0 64 else t
theorem cut_size (t : ByteArray) : (cut t).size ≤ 64 := by
  unfold cut
  split
  · simp; omega
  · omega
def putS (s : Slot) (e : Ev) : Bool × Slot := if s.queue.length = 16 then (false, { s with dropped := s.dropped + 1 }) else (true, { s with queue := s.queue ++ [{ e with text := cut e.text }] })
end bu
theorem infoEv : (Try.prog.info? 31).map (fun i => (i.zero, i.size, i.bytes)) = some (some (Value.agg #[.int .i64 0, .int .i64 0, .int .i64 0, .string ⟨#[]⟩]), 4, 40) := by kernel_rfl
/-- an event more, as one step of a region that draws -/
theorem step_append_ev {w : World} {ops : Array Oper} {o : Oper} {a : Act} {K : Act → World → Prop} {Q : Exit → Act → World → Prop} {E : Prop} (hgd : o.guard = none) (s x : Operand)
    (ho : o.op = Op.call { callee := Callee.builtin Builtin.append, args := #[s, x], argTypes := #[37, 37] }) (B : Nat) (v : Value) (l : List bu.Ev) (hs : a.eval s = v) (hown : EvRow w B v l)
    (g : Nat) (e : bu.Ev) (hx : a.eval x = .slice (some ⟨g, 0, none⟩) 1 1) (hg : w.heap[g]? = some (.cells (evC e).toArray 31 (0, 0)))
    (hlen : l.length ≤ 1000) (hbase : B ≤ w.heap.size)
    (hK : ∀ v' w', EvRow w' B v' (l ++ [e]) → w.grownBy w' v.ownBlock → (v'.ownBlock = v.ownBlock ∨ v'.ownBlock = some w.heap.size) → K (a.put o.dst v') w') :
    if Region.wanted o (yielded ops a.tmps) = true then Oper.wp Try.prog o a w K Q else E := by
  have hw : Region.wanted o (yielded ops a.tmps) = true := by simp [Region.wanted, hgd]
  rw [if_pos hw]
  obtain ⟨i0, hi, hz0, hz1, hz2⟩ := info_parts infoEv
  obtain ⟨v', w', hrun, r1, r2, -, r4⟩ := run_append_own_at (P := Try.prog) w B 37 o.type 31 i0 _ 4 40 Try.underlying37 hi hz0 hz1 hz2 rfl (by omega) v l.length (evsC l) hown
    ⟨g, 0, none⟩ 1 1 (evC e) rfl (fun j u hu => by rw [addr_b0, cell_of_heap hg]; simpa using hu) (fun u hu => evsC_one [e] u (by simpa [evsC] using hu)) (by unfold maxLen; omega) (by omega) hbase
  unfold Oper.wp
  simp [execOp, ho, resolve, invoke, builtin, hs, hx, hrun, Result.andThen]
  refine hK _ _ ?_ r2 r4
  show w'.ownsRow B _ 4 v' (l ++ [e]).length (evsC (l ++ [e]))
  rw [List.length_append, evsC_app]
  simpa [evsC] using r1
theorem clone_any (s : ByteArray) (w : World) (hl : s.size ≤ 1048576) : Calls Try.prog 35 #[.string s] w fun e w' => e = .returned (.string s) ∧ Below w.heap.size w w' := by
  have H := Lib.hid (Try.stringslite_Clone s w (by omega))
  go_enter Try.func35, Try.ntmps35
  go_wp2_with fail
  refine H.out.mono ?_
  rintro e w1 ⟨rfl, hb⟩
  have HB := Lib.hid hb
  clear hb
  go_wp2_with fail
  go_ret
  exact ⟨rfl, HB.out⟩
theorem put_stored {w w3 Wk w8 : World} {q i : Nat} {S : Nat → bu.Slot} {V : Nat → Value} {v' : Value} {l : List bu.Ev} (h : BuAt w3 q S V) (hi : i < 4) (hw : Fr (Own q V) w w3) (hk : Below w3.heap.size w3 Wk) (hr : EvRow w8 q v' l) (hg : Wk.grownBy w8 (V i).ownBlock) (hv : v'.ownBlock = (V i).ownBlock ∨ v'.ownBlock = some Wk.heap.size) :
    BuR q V w (w8.setCell ⟨q, i * 11 + 9, none⟩ v') (bu.upd S i { S i with queue := l }) := by
  have hf : Fr (fun k => (V i).ownBlock = some k) Wk w8 := Fr.of_grown hg
  have hv' : v'.ownBlock = (V i).ownBlock ∨ ∃ y, v'.ownBlock = some y ∧ w3.heap.size ≤ y := hv.imp id fun e => ⟨_, e, hk.size⟩
  refine ⟨_, h.setQ hi v' l (fun y hy hn => (hf.block y (Nat.lt_of_lt_of_le (h.own_lt hy).2 hk.size) hn).trans (hk.block y (h.own_lt hy).2)) hr hv', ?_, ?_⟩
  · refine Fr.setCell ?_ _ _ (.inr (.inl rfl))
    exact hw.trans ((Fr.of_below hk _).trans hf (fun k _ x => x)) (fun k _ x => .inr ⟨i, hi, x⟩)
  · intro y hy
    rcases hy with rfl | ⟨j, hj, e⟩
    · exact .inl (.inl rfl)
    · by_cases ej : j = i
      · subst ej
        have e2 : v'.ownBlock = some y := by simpa using e
        rcases hv with hv | hv
        · exact .inl (.inr ⟨j, hj, hv.symm.trans e2⟩)
        · right
          rw [hv] at e2
          obtain rfl := Option.some.inj e2
          exact Nat.le_trans hw.size hk.size
      · have e2 : (V j).ownBlock = some y := by simpa [ej] using e
        exact .inl (.inr ⟨j, hj, e2⟩)
theorem q_keep {w3 Wk w8 : World} {q i : Nat} {S : Nat → bu.Slot} {V : Nat → Value} (h : BuAt w3 q S V) (hi : i < 4) (hk : Below w3.heap.size w3 Wk) (hg : Wk.grownBy w8 (V i).ownBlock) : w8.cell? ⟨q, i * 11 + 9, none⟩ = some (V i) ∧ w8.frozen? ⟨q, i * 11 + 9, none⟩ = false ∧ q < w8.heap.size := by
  have hf : Fr (fun k => (V i).ownBlock = some k) Wk w8 := Fr.of_grown hg
  have e : w8.heap[q]? = w3.heap[q]? := (hf.block q (Nat.lt_of_lt_of_le h.lt hk.size) (h.ne hi)).trans (hk.block q h.lt)
  obtain ⟨A, e1, -⟩ := h.box
  exact ⟨(cell_of_eq e _).trans (h.cells hi).2.2.1, thaw (e.trans e1), heap_lt (e.trans e1)⟩
theorem ev_stored {w w2 : World} {q : Nat} {S : Nat → bu.Slot} {V : Nat → Value} {k a b : Int} {t : ByteArray} (h : BuAt w2 q S V) (hf : Fr (Own q V) w w2) (ho : ∀ y, Own q V y → y < w.heap.size) (hx : w2.heap[w.heap.size]? = some (.cells #[.int .i64 k, .int .i64 a, .int .i64 b, .string t] 31 (0, 0))) (ct : ByteArray) :
    BuAt (w2.setCell ⟨w.heap.size, 3, none⟩ (.string ct)) q S V ∧ Fr (Own q V) w (w2.setCell ⟨w.heap.size, 3, none⟩ (.string ct)) ∧ (w2.setCell ⟨w.heap.size, 3, none⟩ (.string ct)).heap[w.heap.size]? = some (.cells #[.int .i64 k, .int .i64 a, .int .i64 b, .string ct] 31 (0, 0)) :=
  ⟨h.keep fun y hy => Below.heap_setCell _ _ _ y (by have := ho y hy; simp only; omega), hf.setCell _ _ (.inl (Nat.le_refl _)), heap_setCell_same _ _ 3 _ _ _ hx⟩
set_option maxRecDepth 100000 in
set_option maxHeartbeats 3200000 in
theorem put_any (q i : Nat) (hi : i < 4) (S : Nat → bu.Slot) (V : Nat → Value) (ev : bu.Ev) (w : World) (h : BuAt w q S V) (hd : 0 ≤ (S i).dropped ∧ (S i).dropped < 9223372036854775807) (hl : (S i).queue.length ≤ 16) :
    Calls Try.prog 32 #[.pointer (some ⟨q, i * 11, none⟩), evV ev] w fun e w' => e = .returned (.bool (bu.putS (S i) ev).1) ∧ BuR q V w w' (bu.upd S i (bu.putS (S i) ev).2) := by
  have HP : Hid (bu.putS (S i) ev = if (S i).queue.length = 16 then (false, { S i with dropped := (S i).dropped + 1 }) else (true, { S i with queue := (S i).queue ++ [{ ev with text := bu.cut ev.text }] })) := Lib.hid rfl
  generalize bu.putS (S i) ev = R at *
  have hb1 := below_one w (.cells #[.int .i64 ev.kind, .int .i64 ev.a, .int .i64 ev.b, .string ev.text] 31)
  have HN := Lib.hid (heap_alloc_new w (.cells #[.int .i64 ev.kind, .int .i64 ev.a, .int .i64 ev.b, .string ev.text] 31))
  have HB := Lib.hid (h.below hb1)
  have HF := Lib.hid (Fr.of_below hb1 (Own q V))
  have hqw := h.lt
  have HOL := Lib.hid (fun y (hy : Own q V y) => (h.own_lt hy).2)
  clear h hb1
  obtain ⟨l, hll⟩ : ∃ l, (S i).queue = l := ⟨_, rfl⟩
  rw [hll] at HP hl
  have HL := Lib.hid hll
  clear hll
  obtain ⟨d, hdd⟩ : ∃ d, (S i).dropped = d := ⟨_, rfl⟩
  rw [hdd] at HP hd
  have HD := Lib.hid hdd
  clear hdd
  go_enter Try.func32, Try.ntmps32
  go_upto_region 1 with fail
  generalize w.alloc (.cells #[.int .i64 ev.kind, .int .i64 ev.a, .int .i64 ev.b, .string ev.text] 31) = w1 at *
  obtain ⟨c0, c1, c9, c10⟩ := HB.out.cells hi
  obtain ⟨o, c, hv⟩ := own_slice (HB.out.row i hi)
  rw [HL.out] at hv
  have HVV := Lib.hid hv
  rw [hv] at c9
  rw [HD.out] at c10
  have hq := HB.out.lt
  have f10 := HB.out.thaw (i * 11 + 10)
  clear hv
  by_cases h16 : l.length = 16
  · have HR : Hid (R = (false, { S i with dropped := d + 1 })) := Lib.hid (by rw [HP.out, if_pos h16])
    have e1 : ((l.length : Int) == 16) = true := by simp; omega
    have hw : IntKind.i64.wrap (d + 1) = d + 1 := by rw [IntKind.wrap_i64]; omega
    have hs := HB.out.set hi 10 (by omega) (.int .i64 (d + 1)) { S i with dropped := d + 1 } rfl (by simp) (fun k hk => by rw [if_neg (by omega)]) (by simp) (by simp)
    have HB2 : Hid (BuR q V w (w1.setCell ⟨q, i * 11 + 10, none⟩ (.int .i64 (d + 1))) (bu.upd S i { S i with dropped := d + 1 })) := Lib.hid (BuR.of hs (HF.out.setCell _ _ (.inr (.inl rfl))))
    clear HP hs h16 c0 c1
    go_wp2_with fail
    go_ret
    rw [HR.out]
    exact ⟨rfl, HB2.out⟩
  · have HR : Hid (R = (true, { S i with queue := l ++ [{ ev with text := bu.cut ev.text }] })) := Lib.hid (by rw [HP.out, if_neg h16])
    have e1 : ((l.length : Int) == 16) = false := by simp; omega
    have HCL := Lib.hid (clone_any (bu.cut ev.text) w1 (by have := bu.cut_size ev.text; omega))
    have x0 : w1.cell? ⟨w.heap.size, 0, none⟩ = some (.int .i64 ev.kind) := (cell_of_heap HN.out).trans rfl
    have x3 : w1.cell? ⟨w.heap.size, 3, none⟩ = some (.string ev.text) := (cell_of_heap HN.out).trans rfl
    have hlx := heap_lt HN.out
    have hcut : bu.cut ev.text = if 64 < ev.text.size then ev.text.extract 0 64 else ev.text := rfl
    clear HP c0 c1 c10 f10
    obtain ⟨ct, hct⟩ : ∃ ct, bu.cut ev.text = ct := ⟨_, rfl⟩
    rw [hct] at HR HCL hcut
    clear hct
    go_upto_region 4 with fail
    clear c9
    go_cut [4] from 18 to 26 (fun s4 wx => s4 = .bool false ∧ Hid (BuAt wx q S V ∧ Fr (Own q V) w wx ∧ wx.heap[w.heap.size]? = some (.cells #[.int .i64 ev.kind, .int .i64 ev.a, .int .i64 ev.b, .string ct] 31 (0, 0))))
    case first =>
      by_cases h64 : 64 < ev.text.size
      all_goals
        first | (rw [if_pos h64] at hcut) | (rw [if_neg h64] at hcut)
        subst hcut
        first | (have hmin : min (ev.text.size : Int) 64 = 64 := by omega) | (have hmin : min (ev.text.size : Int) 64 = (ev.text.size : Int) := by omega)
        go_wp2_with fail
        refine HCL.out.mono ?_
        rintro e w2 ⟨rfl, hb2⟩
        have hx2 := (hb2.block _ (heap_lt HN.out)).trans HN.out
        have x3' : w2.cell? ⟨w.heap.size, 3, none⟩ = some (.string ev.text) := (cell_of_heap hx2).trans rfl
        have f3' := thaw (k := 3) hx2
        have hlx2 := heap_lt hx2
        have H3 := Lib.hid (ev_stored (HB.out.below hb2) (HF.out.below hb2) HOL.out hx2)
        clear hb2 hx2 HCL x0 x3 hlx
        go_wp2_with fail
        go_meet
        exact ⟨rfl, Lib.hid (H3.out _)⟩
    case rest =>
    obtain ⟨rfl, H3⟩ := hcut
    clear x0 x3 hlx HCL HN HB HF hcut
    generalize wc = w3 at *
    have c9 := (H3.out.1.cells hi).2.2.1
    rw [HVV.out] at c9
    have f9 := H3.out.1.thaw (i * 11 + 9)
    have hq3 := H3.out.1.lt
    have y0 : w3.cell? ⟨w.heap.size, 0, none⟩ = some (.int .i64 ev.kind) := (cell_of_heap H3.out.2.2).trans rfl
    have y1 : w3.cell? ⟨w.heap.size, 1, none⟩ = some (.int .i64 ev.a) := (cell_of_heap H3.out.2.2).trans rfl
    have y2 : w3.cell? ⟨w.heap.size, 2, none⟩ = some (.int .i64 ev.b) := (cell_of_heap H3.out.2.2).trans rfl
    have y3 : w3.cell? ⟨w.heap.size, 3, none⟩ = some (.string ct) := (cell_of_heap H3.out.2.2).trans rfl
    have hly := heap_lt H3.out.2.2
    have HP : Hid (∀ k : Nat, EvRow ((w3.drewN k).alloc (.cells #[.int .i64 ev.kind, .int .i64 ev.a, .int .i64 ev.b, .string ct] 31)) q (.slice o l.length c) l ∧ ((w3.drewN k).alloc (.cells #[.int .i64 ev.kind, .int .i64 ev.a, .int .i64 ev.b, .string ct] 31)).heap[w3.heap.size]? = some (.cells (evC ⟨ev.kind, ev.a, ev.b, ct⟩).toArray 31 (0, 0)) ∧ q ≤ ((w3.drewN k).alloc (.cells #[.int .i64 ev.kind, .int .i64 ev.a, .int .i64 ev.b, .string ct] 31)).heap.size ∧ Below w3.heap.size w3 ((w3.drewN k).alloc (.cells #[.int .i64 ev.kind, .int .i64 ev.a, .int .i64 ev.b, .string ct] 31))) := Lib.hid (fun k => by
      have hb : Below w3.heap.size w3 ((w3.drewN k).alloc (.cells #[.int .i64 ev.kind, .int .i64 ev.a, .int .i64 ev.b, .string ct] 31)) := (below_dN (Below.refl w3.heap.size w3) k).alloc (Nat.le_refl _) _
      have hr := H3.out.1.row i hi
      rw [HVV.out, HL.out] at hr
      exact ⟨row_below hr hb, heap_alloc_new (w3.drewN k) _, Nat.le_trans (Nat.le_of_lt hq3) hb.size, hb⟩)
    go_upto_region 5 with fail
    go_cut [4] from 27 to 36 (fun s4 wx => s4 = .bool false ∧ Hid (BuR q V w wx (bu.upd S i { S i with queue := l ++ [{ ev with text := ct }] })))
    case first =>
      go_region_law (refine step_append_ev rfl (.tmp 31) (.tmp 33) rfl q (.slice o l.length c) l rfl (HP.out _).1 w3.heap.size ⟨ev.kind, ev.a, ev.b, ct⟩ rfl (HP.out _).2.1 (by omega) (HP.out _).2.2.1 ?_; intro v' w8 r1 r2 r4; obtain ⟨ov, cv, rfl⟩ : ∃ o c, v' = .slice o (l.length + 1) c := (by obtain ⟨o', c', e⟩ := own_slice r1; exact ⟨o', c', by rw [e, List.length_append, List.length_singleton]⟩); rw [← HVV.out] at r2 r4; have hqk := q_keep H3.out.1 hi (HP.out _).2.2.2 r2; rw [HVV.out] at hqk; obtain ⟨c9', f9', hq'⟩ := hqk; have H8 := Lib.hid (put_stored H3.out.1 hi H3.out.2.1 (HP.out _).2.2.2 r1 r2 r4); clear r1 r2 r4)
      all_goals
        go_wp2_with fail
        go_meet
        exact ⟨rfl, H8⟩
    case rest =>
    obtain ⟨rfl, H8⟩ := hcut
    clear c9 f9 hq3 y0 y1 y2 y3 hly HP H3
    generalize wc = w9 at *
    go_wp2_with fail
    go_ret
    rw [HR.out]
    exact ⟨rfl, H8.out⟩
end Go.Proofs.Ytgegphciaejkiaa
