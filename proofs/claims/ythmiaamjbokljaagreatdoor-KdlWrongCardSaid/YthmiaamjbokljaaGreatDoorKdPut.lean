/- The writer: put, quote, name, value. -/
import Derived.Test.YthmiaamjbokljaaGreatDoorKdWrong
import Derived.Lib.AppendStr
namespace Go.Proofs.YthmiaamjbokljaaGreatDoor
open Go.RowKit
/-- the writer in block p, behind all of full (as far as there is room) -/
structure WrAt (w : World) (p : Nat) (full : List UInt8) : Prop where
  ex : ∃ (V : Value) (t : List UInt8) (l : Bool), w.heap[p]? = some (.cells #[V, .bool l] 53 (0, 0)) ∧ w.ownsRow (p + 1) 5 1 V t.length (Lib.strCells ⟨t.toArray⟩) ∧ t.length ≤ 4096 ∧ (l = false → t = full) ∧ (l = true → 4096 < full.length)
theorem WrAt.below {w w' : World} {p : Nat} {full : List UInt8} (h : WrAt w p full) (hb : Below w.heap.size w w') : WrAt w' p full := by
  obtain ⟨V, t, l, h1, h2, h3⟩ := h.ex
  exact ⟨V, t, l, (hb.block _ (heap_lt h1)).trans h1, row_below h2 hb, h3⟩
theorem WrAt.lt {w : World} {p : Nat} {full : List UInt8} (h : WrAt w p full) : p < w.heap.size := by
  obtain ⟨V, t, l, h1, -⟩ := h.ex
  exact heap_lt h1
/-- what the writer's methods turn: its block, rows of bytes, new blocks -/
structure Tw (p : Nat) (w w' : World) : Prop where
  bel : Below p w w'
  size : w.heap.size ≤ w'.heap.size
  keep : ∀ k o, w.heap[k]? = some o → k ≠ p → (∀ cur, o ≠ Obj.cells cur 5 (0, 0)) → w'.heap[k]? = some o
theorem Tw.refl (p : Nat) (w : World) : Tw p w w := ⟨Below.refl p w, Nat.le_refl _, fun _ _ h _ _ => h⟩
theorem Tw.trans {p : Nat} {a b c : World} (h : Tw p a b) (g : Tw p b c) : Tw p a c := ⟨h.bel.trans g.bel, Nat.le_trans h.size g.size, fun k o hk hp ho => g.keep k o (h.keep k o hk hp ho) hp ho⟩
theorem Tw.of_below {p : Nat} {w w' : World} (h : Below w.heap.size w w') (hp : p ≤ w.heap.size) : Tw p w w' := ⟨h.mono hp, h.size, fun k _ hk _ _ => (h.block k (heap_lt hk)).trans hk⟩
theorem Tw.then {p : Nat} {a b c : World} (h : Tw p a b) (g : Below b.heap.size b c) (hp : p ≤ b.heap.size) : Tw p a c := h.trans (Tw.of_below g hp)
theorem Tw.set {p : Nat} {a b : World} (h : Tw p a b) (i : Nat) (u : Value) : Tw p a (b.setCell ⟨p, i, none⟩ u) := ⟨h.bel.setCell (Nat.le_refl _) u, by simpa using h.size, fun k o hk hp ho => (Below.heap_setCell b ⟨p, i, none⟩ u k hp).trans (h.keep k o hk hp ho)⟩
theorem strCells_app (a b : List UInt8) : Lib.strCells ⟨a.toArray⟩ ++ Lib.strCells ⟨b.toArray⟩ = Lib.strCells ⟨(a ++ b).toArray⟩ := by simp [Lib.strCells]
theorem infoByte : (Tryz.prog.info? 5).map (fun i => (i.zero, i.size, i.bytes)) = some (some (Value.int .u8 0), 1, 1) := by kernel_rfl
set_option maxRecDepth 100000 in
set_option maxHeartbeats 1600000 in
theorem put_any (p : Nat) (full s : List UInt8) (w : World) (h : WrAt w p full) (hs : s.length ≤ 9223372036854775807) :
    Calls Tryz.prog 26 #[.pointer (some ⟨p, 0, none⟩), str s] w fun ev w' => ev = .returned (.tuple #[]) ∧ WrAt w' p (full ++ s) ∧ Tw p w w' := by
  have hp := h.lt
  obtain ⟨V, t, l, hb, hrow, ht, hl0, hl1⟩ := h.ex
  have hsz := str_size s
  obtain ⟨ao, ac, rfl⟩ := own_slice hrow
  have c0 : w.cell? ⟨p, 0, none⟩ = some (.slice ao t.length ac) := (cell_of_heap hb).trans rfl
  have c1 : w.cell? ⟨p, 1, none⟩ = some (.bool l) := (cell_of_heap hb).trans rfl
  have f0 : w.frozen? ⟨p, 0, none⟩ = false := by simp [World.frozen?, hb]
  have f1 : w.frozen? ⟨p, 1, none⟩ = false := by simp [World.frozen?, hb]
  have HROW := Lib.hid hrow
  have HBK := Lib.hid hb
  have hlong : Hid (4096 < (full ++ s).length → WrAt (w.setCell ⟨p, 1, none⟩ (.bool true)) p (full ++ s) ∧ Tw p w (w.setCell ⟨p, 1, none⟩ (.bool true))) := Lib.hid fun hlg => by
    refine ⟨⟨.slice ao t.length ac, t, true, heap_setCell_same w p 1 _ _ (.bool true) HBK.out, ownsRow_setCell_below HROW.out (show (⟨p, 1, none⟩ : Addr).block < p + 1 from Nat.lt_succ_self p) _, ht, fun h => Bool.noConfusion h, fun _ => hlg⟩, (Tw.refl p w).set 1 _⟩
  clear hb hrow h
  cases l with
  | true =>
    have HL := Lib.hid (hlong.out (by rw [List.length_append]; have := hl1 rfl; omega))
    clear hl0 hl1 hlong
    go_enter Tryz.func26, Tryz.ntmps26
    go_wp2_with fail
    refine bodyPost_ret (results_none rfl _ _ _) rfl ?_
    exact ⟨rfl, HL.out.1, HL.out.2⟩
  | false =>
    obtain rfl : t = full := hl0 rfl
    clear hl0 hl1
    by_cases hlg : 4096 - t.length < s.length
    · have hli : (4096 : Int) - (t.length : Int) < (s.length : Int) := by omega
      have HL := Lib.hid (hlong.out (by rw [List.length_append]; omega))
      have hw1 : IntKind.i64.wrap (4096 - (t.length : Int)) = 4096 - (t.length : Int) := by rw [IntKind.wrap_i64]; omega
      clear hlong
      go_enter Tryz.func26, Tryz.ntmps26
      go_wp2_with fail
      refine bodyPost_ret (results_none rfl _ _ _) rfl ?_
      exact ⟨rfl, HL.out.1, HL.out.2⟩
    · have hli : ¬ (4096 : Int) - (t.length : Int) < (s.length : Int) := by omega
      have hw1 : IntKind.i64.wrap (4096 - (t.length : Int)) = 4096 - (t.length : Int) := by rw [IntKind.wrap_i64]; omega
      have h63 : t.length + (ByteArray.mk s.toArray).size ≤ maxLen := by rw [hsz]; unfold maxLen; omega
      have h47 : t.length + (ByteArray.mk s.toArray).size ≤ 140737488355328 := by rw [hsz]; omega
      have H63 := Lib.hid (And.intro h63 h47)
      clear h63 h47
      obtain ⟨i0, hi, hz0, hz1, hz2⟩ := info_parts infoByte
      have HI := Lib.hid (And.intro hi (And.intro hz0 (And.intro hz1 hz2)))
      clear hlong hi hz0 hz1 hz2
      go_enter Tryz.func26, Tryz.ntmps26
      go_wp2_with (at_builtin; refine Lib.wpList_append_own_string _ rfl _ _ 51 9 rfl (p + 1) 5 i0 Tryz.underlying51 Tryz.underlying9 HI.out.1 HI.out.2.1 HI.out.2.2.1 HI.out.2.2.2 (.slice ao t.length ac) t.length (Lib.strCells ⟨t.toArray⟩) rfl HROW.out ⟨s.toArray⟩ rfl H63.out.1 H63.out.2 hp ?_)
      intro V' w1 r1 r2 r3
      obtain ⟨aoV, cV, rfl⟩ := own_slice r1
      have hne : (Value.slice ao t.length ac).ownBlock ≠ some p := fun e => by have := (HROW.out.lt p e).1; omega
      have hbk1 := (r2.block p hp (fun e => hne e.symm)).trans HBK.out
      have d0 : w1.cell? ⟨p, 0, none⟩ = some (.slice ao t.length ac) := (cell_of_heap hbk1).trans rfl
      have e0 : w1.frozen? ⟨p, 0, none⟩ = false := by simp [World.frozen?, hbk1]
      have hp1 := heap_lt hbk1
      rw [strCells_app] at r1
      have HW : Hid (WrAt (w1.setCell ⟨p, 0, none⟩ (.slice aoV (t.length + s.length) cV)) p (t ++ s) ∧ Tw p w (w1.setCell ⟨p, 0, none⟩ (.slice aoV (t.length + s.length) cV))) := Lib.hid ⟨⟨_, t ++ s, false, heap_setCell_same w1 p 0 _ _ _ hbk1, by
        rw [List.length_append]
        exact ownsRow_setCell_below r1 (show (⟨p, 0, none⟩ : Addr).block < p + 1 from Nat.lt_succ_self p) _, by rw [List.length_append]; omega, fun _ => rfl, fun h => Bool.noConfusion h⟩,
        (⟨(Below.refl p w).grown r2 (Nat.le_of_lt hp) (fun k hk => by have := (HROW.out.lt k hk).1; omega), r2.size, fun k o hk _ ho => (r2.block k (heap_lt hk) (fun e => by
          obtain ⟨cur, hc⟩ := own_type HROW.out e.symm
          rw [hk] at hc
          exact ho cur (Option.some.inj hc))).trans hk⟩ : Tw p w w1).set 0 _⟩
      clear r1 r2 r3 hbk1 hne
      go_wp2_with fail
      go_end0
      exact ⟨rfl, HW.out.1, HW.out.2⟩
theorem WrAt.iter {w : World} {p it : Nat} {full : List UInt8} {s : ByteArray} {pos : Nat} (h : WrAt w p full) (hit : w.heap[it]? = some (.stringIter s pos)) (pos' : Nat) : WrAt (w.iterAt it s pos') p full := by
  obtain ⟨V, t, l, h1, h2, h3⟩ := h.ex
  refine ⟨V, t, l, (Lib.iterAt_other w it p s pos' ?_).trans h1, own_keep h2 (fun g cur _ _ _ hc => Lib.iterAt_other w it g s pos' ?_), h3⟩
  · rintro rfl
    rw [hit] at h1; cases h1
  · rintro rfl
    rw [hit] at hc; cases hc
theorem Tw.iter {p it : Nat} {a w : World} (h : Tw p a w) (hp : p ≤ it) (hit : a.heap.size ≤ it) (s : ByteArray) (pos : Nat) : Tw p a (w.iterAt it s pos) :=
  ⟨Lib.below_iterAt h.bel hp s pos, by rw [Lib.iterAt_size]; exact h.size, fun k o hk hkp ho => (Lib.iterAt_other w it k s pos (by have := heap_lt hk; omega)).trans (h.keep k o hk hkp ho)⟩
theorem qbs_app (a b : List UInt8) : tk.qbs (a ++ b) = tk.qbs a ++ tk.qbs b := by unfold tk.qbs; exact List.flatMap_append
theorem qbs_hi (l : List UInt8) (h : ∀ c ∈ l, 128 ≤ c.toNat) : tk.qbs l = l := by
  induction l with
  | nil => rfl
  | cons c r ih =>
    rw [tk.qbs_cons, ih (fun x hx => h x (List.mem_cons_of_mem _ hx))]
    have := h c List.mem_cons_self
    unfold tk.qb
    rw [if_neg (by omega), if_neg (by omega), if_neg (by omega)]
    rfl
theorem drop_take_step (s : List UInt8) (fr pos wd : Nat) (h1 : fr ≤ pos) (h2 : pos + wd ≤ s.length) : (s.take (pos + wd)).drop fr = (s.take pos).drop fr ++ (s.drop pos).take wd := by
  rw [List.take_add, List.drop_append_of_le_length (by rw [List.length_take]; omega)]
set_option maxRecDepth 100000 in
set_option maxHeartbeats 3200000 in
theorem quote_any' (p : Nat) (full s : List UInt8) (w : World) (h : WrAt w p full) (hs : s.length ≤ 9223372036854775807) :
    Calls Tryz.prog 48 #[.pointer (some ⟨p, 0, none⟩), str s] w fun ev w' => ev = .returned (.tuple #[]) ∧ WrAt w' p (full ++ kd.quoteT s) ∧ Tw p w w' := by
  have hp := h.lt
  have hsz := str_size s
  have HP1 := Lib.hid (put_any p full [34] w h (by simp))
  clear h
  go_enter Tryz.func48, Tryz.ntmps48
  go_wp2_with fail
  refine HP1.out.mono ?_
  rintro ev w1 ⟨rfl, hw1, ht1⟩
  have hb1 : Below w1.heap.size w1 (w1.iter ⟨s.toArray⟩ 0) := (Below.refl _ _).alloc (Nat.le_refl _) _
  have hp1 := hw1.lt
  have hsw := ht1.size
  have H0 : Hid ((w1.iter ⟨s.toArray⟩ 0).heap[w1.heap.size]? = some (.stringIter ⟨s.toArray⟩ 0) ∧ WrAt (w1.iter ⟨s.toArray⟩ 0) p (full ++ [34]) ∧ Tw p w (w1.iter ⟨s.toArray⟩ 0)) := Lib.hid ⟨World.iter_heap w1 _ _, hw1.below hb1, ht1.then hb1 (Nat.le_of_lt hp1)⟩
  clear hw1 ht1 hb1 HP1
  have hrg := fun t wx (h : Tryz.prog.underlying t = some .string) => run_range_string (P := Tryz.prog) wx t ⟨s.toArray⟩ h
  go_wp2_with fail
  generalize w1.iter ⟨s.toArray⟩ 0 = w2 at *
  generalize hit : w1.heap.size = it at *
  have hpit : p < it := hp1
  have hwit : w.heap.size ≤ it := hsw
  clear hit hrg
  go_loopg [4] s.length (fun gg s4 wr => ∃ pos fr : Nat, s4 = .int .i64 fr ∧ fr ≤ pos ∧ pos ≤ s.length ∧ s.length - pos ≤ gg ∧ Hid (wr.heap[it]? = some (.stringIter ⟨s.toArray⟩ pos) ∧ WrAt wr p (full ++ [34] ++ tk.qbs (s.take fr)) ∧ Tw p w wr ∧ tk.qbs (s.take pos) = tk.qbs (s.take fr) ++ (s.take pos).drop fr))
  case atStart => exact ⟨0, 0, rfl, Nat.le_refl _, Nat.zero_le _, by omega, Lib.hid ⟨H0.out.1, by simpa [tk.qbs] using H0.out.2.1, H0.out.2.2, by simp [tk.qbs]⟩⟩
  case round =>
    clear H0
    obtain ⟨pos, fr, rfl, hfr, hps, hgg, HA⟩ := hrel
    by_cases hlt : pos < s.length
    case neg =>
      have hend := fun ty => Lib.run_next_end_at (P := Tryz.prog) wr it ⟨s.toArray⟩ pos ty HA.out.1 (by rw [hsz]; exact hlt)
      have hfin : full ++ [34] ++ tk.qbs (s.take fr) ++ s.drop fr ++ [34] = full ++ kd.quoteT s := by
        have h4 := HA.out.2.2.2
        rw [List.take_of_length_le (by omega)] at h4
        unfold kd.quoteT
        rw [h4]
        simp
      have HFIN := Lib.hid hfin
      have HP2 := Lib.hid (put_any p _ (s.drop fr) wr HA.out.2.1 (by rw [List.length_drop]; omega))
      have hsl := fun k wx => run_str_lo s k fr (by omega) wx
      have HT := Lib.hid HA.out.2.2.1
      clear HA hfin
      go_wp2_with fail
      refine HP2.out.mono ?_
      rintro ev w3 ⟨rfl, hw3, ht3⟩
      have HP3 := Lib.hid (put_any p _ [34] w3 hw3 (by simp))
      have HT3 := Lib.hid (HT.out.trans ht3)
      clear hw3 ht3 HP2 HT hend
      go_wp2_with fail
      refine HP3.out.mono ?_
      rintro ev w4 ⟨rfl, hw4, ht4⟩
      have HR := Lib.hid (And.intro hw4 (HT3.out.trans ht4))
      clear hw4 ht4 HP3 HT3
      go_wp2_with fail
      go_end0
      exact ⟨rfl, by rw [← HFIN.out]; exact HR.out.1, HR.out.2⟩
    case pos =>
      obtain ⟨r, wd, hdec, hw1, hw2, hcase⟩ := dec_step s pos hlt
      have hnx := fun ty => Lib.run_next_any_at (P := Tryz.prog) wr it ⟨s.toArray⟩ pos ty HA.out.1 (by rw [hsz]; exact hlt)
      rw [hdec] at hnx
      dsimp only at hnx
      have HN : Hid ((wr.iterAt it ⟨s.toArray⟩ (pos + wd)).heap[it]? = some (.stringIter ⟨s.toArray⟩ (pos + wd)) ∧ WrAt (wr.iterAt it ⟨s.toArray⟩ (pos + wd)) p (full ++ [34] ++ tk.qbs (s.take fr)) ∧ Tw p w (wr.iterAt it ⟨s.toArray⟩ (pos + wd)) ∧ tk.qbs (s.take pos) = tk.qbs (s.take fr) ++ (s.take pos).drop fr) :=
        Lib.hid ⟨Lib.iterAt_heap wr _ _ pos _ HA.out.1, HA.out.2.1.iter HA.out.1 _, HA.out.2.2.1.iter (Nat.le_of_lt hpit) hwit _ _, HA.out.2.2.2⟩
      clear HA hdec
      generalize wr.iterAt it ⟨s.toArray⟩ (pos + wd) = w3 at *
      have HES := Lib.hid (fun X => escape_any (r : Int) X)
      rcases hcase with ⟨hr, h8, rfl⟩ | ⟨h8, hhi⟩
      · have hcase := True.intro
        by_cases hk34 : r = 34
        · subst hk34
          have hqb : tk.qb s[pos] = [92, 34] := by
            unfold tk.qb
            rw [← hr]
            rw [if_neg (by decide), if_neg (by decide), if_pos (.inl rfl)]; rw [tk.ub_ext (c := s[pos]) (d := 34) (hr.symm.trans rfl)]
          have HE2 := Lib.hid (fun X => escape_any 34 X)
          rw [show kd.esc 34 = [92, 34] from rfl] at HE2
          have HQ : Hid (full ++ [34] ++ tk.qbs (s.take fr) ++ (s.take pos).drop fr ++ [92, 34] = full ++ [34] ++ tk.qbs (s.take (pos + 1)) ∧ tk.qbs (s.take (pos + 1)) = tk.qbs (s.take (pos + 1)) ++ (s.take (pos + 1)).drop (pos + 1)) := Lib.hid ⟨by
            rw [List.take_add_one, List.getElem?_eq_getElem hlt, Option.toList_some, qbs_app, HN.out.2.2.2, show tk.qbs [s[pos]] = [92, 34] by show tk.qb s[pos] ++ [] = _; rw [hqb]; rfl]
            simp, by rw [List.drop_eq_nil_of_le (by rw [List.length_take]; omega), List.append_nil]⟩
          have HP2 := Lib.hid (put_any p _ ((s.take pos).drop fr) w3 HN.out.2.1 (by rw [List.length_drop, List.length_take]; omega))
          have hsl := fun k k' wx => run_str_lh s k k' fr pos hfr hps wx
          have HTW := Lib.hid HN.out.2.2.1
          have HIT := Lib.hid HN.out.1
          have hpit' := hpit
          clear hqb hr hcase HN
          go_wp2_with fail
          refine (HE2.out _).mono ?_
          rintro ev w4 ⟨rfl, hw⟩
          replace hw := hw.symm
          subst hw
          go_wp2_with fail
          refine HP2.out.mono ?_
          rintro ev w5 ⟨rfl, hw5, ht5⟩
          have HP3 := Lib.hid (put_any p _ [92, 34] w5 hw5 (by simp))
          have HT5 := Lib.hid (HTW.out.trans ht5)
          have HI5 := Lib.hid (ht5.keep it _ HIT.out (by omega) (fun cur e => by cases e))
          clear hw5 ht5 HP2 HTW HIT
          go_wp2_with fail
          refine HP3.out.mono ?_
          rintro ev w6 ⟨rfl, hw6, ht6⟩
          have hw6' := hw6
          rw [HQ.out.1] at hw6'
          have HR6 := Lib.hid (And.intro hw6' (And.intro (HT5.out.trans ht6) (ht6.keep it _ HI5.out (by omega) (fun cur e => by cases e))))
          clear hw6 hw6' ht6 HP3 HT5 HI5
          go_wp2_with fail
          go_roundg (s.length - (pos + 1))
          case measure => omega
          case rel => exact ⟨pos + 1, pos + 1, by go_num, Nat.le_refl _, hw2, Nat.le_refl _, Lib.hid ⟨HR6.out.2.2, HR6.out.1, HR6.out.2.1, HQ.out.2⟩⟩
        by_cases hk92 : r = 92
        · subst hk92
          have hqb : tk.qb s[pos] = [92, 92] := by
            unfold tk.qb
            rw [← hr]
            rw [if_neg (by decide), if_neg (by decide), if_pos (.inr rfl)]; rw [tk.ub_ext (c := s[pos]) (d := 92) (hr.symm.trans rfl)]
          have HE2 := Lib.hid (fun X => escape_any 92 X)
          rw [show kd.esc 92 = [92, 92] from rfl] at HE2
          have HQ : Hid (full ++ [34] ++ tk.qbs (s.take fr) ++ (s.take pos).drop fr ++ [92, 92] = full ++ [34] ++ tk.qbs (s.take (pos + 1)) ∧ tk.qbs (s.take (pos + 1)) = tk.qbs (s.take (pos + 1)) ++ (s.take (pos + 1)).drop (pos + 1)) := Lib.hid ⟨by
            rw [List.take_add_one, List.getElem?_eq_getElem hlt, Option.toList_some, qbs_app, HN.out.2.2.2, show tk.qbs [s[pos]] = [92, 92] by show tk.qb s[pos] ++ [] = _; rw [hqb]; rfl]
            simp, by rw [List.drop_eq_nil_of_le (by rw [List.length_take]; omega), List.append_nil]⟩
          have HP2 := Lib.hid (put_any p _ ((s.take pos).drop fr) w3 HN.out.2.1 (by rw [List.length_drop, List.length_take]; omega))
          have hsl := fun k k' wx => run_str_lh s k k' fr pos hfr hps wx
          have HTW := Lib.hid HN.out.2.2.1
          have HIT := Lib.hid HN.out.1
          have hpit' := hpit
          clear hqb hr hcase HN
          go_wp2_with fail
          refine (HE2.out _).mono ?_
          rintro ev w4 ⟨rfl, hw⟩
          replace hw := hw.symm
          subst hw
          go_wp2_with fail
          refine HP2.out.mono ?_
          rintro ev w5 ⟨rfl, hw5, ht5⟩
          have HP3 := Lib.hid (put_any p _ [92, 92] w5 hw5 (by simp))
          have HT5 := Lib.hid (HTW.out.trans ht5)
          have HI5 := Lib.hid (ht5.keep it _ HIT.out (by omega) (fun cur e => by cases e))
          clear hw5 ht5 HP2 HTW HIT
          go_wp2_with fail
          refine HP3.out.mono ?_
          rintro ev w6 ⟨rfl, hw6, ht6⟩
          have hw6' := hw6
          rw [HQ.out.1] at hw6'
          have HR6 := Lib.hid (And.intro hw6' (And.intro (HT5.out.trans ht6) (ht6.keep it _ HI5.out (by omega) (fun cur e => by cases e))))
          clear hw6 hw6' ht6 HP3 HT5 HI5
          go_wp2_with fail
          go_roundg (s.length - (pos + 1))
          case measure => omega
          case rel => exact ⟨pos + 1, pos + 1, by go_num, Nat.le_refl _, hw2, Nat.le_refl _, Lib.hid ⟨HR6.out.2.2, HR6.out.1, HR6.out.2.1, HQ.out.2⟩⟩
        by_cases hk10 : r = 10
        · subst hk10
          have hqb : tk.qb s[pos] = [92, 110] := by
            unfold tk.qb
            rw [← hr]
            rfl
          have HE2 := Lib.hid (fun X => escape_any 10 X)
          rw [show kd.esc 10 = [92, 110] from rfl] at HE2
          have HQ : Hid (full ++ [34] ++ tk.qbs (s.take fr) ++ (s.take pos).drop fr ++ [92, 110] = full ++ [34] ++ tk.qbs (s.take (pos + 1)) ∧ tk.qbs (s.take (pos + 1)) = tk.qbs (s.take (pos + 1)) ++ (s.take (pos + 1)).drop (pos + 1)) := Lib.hid ⟨by
            rw [List.take_add_one, List.getElem?_eq_getElem hlt, Option.toList_some, qbs_app, HN.out.2.2.2, show tk.qbs [s[pos]] = [92, 110] by show tk.qb s[pos] ++ [] = _; rw [hqb]; rfl]
            simp, by rw [List.drop_eq_nil_of_le (by rw [List.length_take]; omega), List.append_nil]⟩
          have HP2 := Lib.hid (put_any p _ ((s.take pos).drop fr) w3 HN.out.2.1 (by rw [List.length_drop, List.length_take]; omega))
          have hsl := fun k k' wx => run_str_lh s k k' fr pos hfr hps wx
          have HTW := Lib.hid HN.out.2.2.1
          have HIT := Lib.hid HN.out.1
          have hpit' := hpit
          clear hqb hr hcase HN
          go_wp2_with fail
          refine (HE2.out _).mono ?_
          rintro ev w4 ⟨rfl, hw⟩
          replace hw := hw.symm
          subst hw
          go_wp2_with fail
          refine HP2.out.mono ?_
          rintro ev w5 ⟨rfl, hw5, ht5⟩
          have HP3 := Lib.hid (put_any p _ [92, 110] w5 hw5 (by simp))
          have HT5 := Lib.hid (HTW.out.trans ht5)
          have HI5 := Lib.hid (ht5.keep it _ HIT.out (by omega) (fun cur e => by cases e))
          clear hw5 ht5 HP2 HTW HIT
          go_wp2_with fail
          refine HP3.out.mono ?_
          rintro ev w6 ⟨rfl, hw6, ht6⟩
          have hw6' := hw6
          rw [HQ.out.1] at hw6'
          have HR6 := Lib.hid (And.intro hw6' (And.intro (HT5.out.trans ht6) (ht6.keep it _ HI5.out (by omega) (fun cur e => by cases e))))
          clear hw6 hw6' ht6 HP3 HT5 HI5
          go_wp2_with fail
          go_roundg (s.length - (pos + 1))
          case measure => omega
          case rel => exact ⟨pos + 1, pos + 1, by go_num, Nat.le_refl _, hw2, Nat.le_refl _, Lib.hid ⟨HR6.out.2.2, HR6.out.1, HR6.out.2.1, HQ.out.2⟩⟩
        by_cases hk9 : r = 9
        · subst hk9
          have hqb : tk.qb s[pos] = [92, 116] := by
            unfold tk.qb
            rw [← hr]
            rfl
          have HE2 := Lib.hid (fun X => escape_any 9 X)
          rw [show kd.esc 9 = [92, 116] from rfl] at HE2
          have HQ : Hid (full ++ [34] ++ tk.qbs (s.take fr) ++ (s.take pos).drop fr ++ [92, 116] = full ++ [34] ++ tk.qbs (s.take (pos + 1)) ∧ tk.qbs (s.take (pos + 1)) = tk.qbs (s.take (pos + 1)) ++ (s.take (pos + 1)).drop (pos + 1)) := Lib.hid ⟨by
            rw [List.take_add_one, List.getElem?_eq_getElem hlt, Option.toList_some, qbs_app, HN.out.2.2.2, show tk.qbs [s[pos]] = [92, 116] by show tk.qb s[pos] ++ [] = _; rw [hqb]; rfl]
            simp, by rw [List.drop_eq_nil_of_le (by rw [List.length_take]; omega), List.append_nil]⟩
          have HP2 := Lib.hid (put_any p _ ((s.take pos).drop fr) w3 HN.out.2.1 (by rw [List.length_drop, List.length_take]; omega))
          have hsl := fun k k' wx => run_str_lh s k k' fr pos hfr hps wx
          have HTW := Lib.hid HN.out.2.2.1
          have HIT := Lib.hid HN.out.1
          have hpit' := hpit
          clear hqb hr hcase HN
          go_wp2_with fail
          refine (HE2.out _).mono ?_
          rintro ev w4 ⟨rfl, hw⟩
          replace hw := hw.symm
          subst hw
          go_wp2_with fail
          refine HP2.out.mono ?_
          rintro ev w5 ⟨rfl, hw5, ht5⟩
          have HP3 := Lib.hid (put_any p _ [92, 116] w5 hw5 (by simp))
          have HT5 := Lib.hid (HTW.out.trans ht5)
          have HI5 := Lib.hid (ht5.keep it _ HIT.out (by omega) (fun cur e => by cases e))
          clear hw5 ht5 HP2 HTW HIT
          go_wp2_with fail
          refine HP3.out.mono ?_
          rintro ev w6 ⟨rfl, hw6, ht6⟩
          have hw6' := hw6
          rw [HQ.out.1] at hw6'
          have HR6 := Lib.hid (And.intro hw6' (And.intro (HT5.out.trans ht6) (ht6.keep it _ HI5.out (by omega) (fun cur e => by cases e))))
          clear hw6 hw6' ht6 HP3 HT5 HI5
          go_wp2_with fail
          go_roundg (s.length - (pos + 1))
          case measure => omega
          case rel => exact ⟨pos + 1, pos + 1, by go_num, Nat.le_refl _, hw2, Nat.le_refl _, Lib.hid ⟨HR6.out.2.2, HR6.out.1, HR6.out.2.1, HQ.out.2⟩⟩
        · have hesc : kd.esc (r : Int) = [] := by unfold kd.esc; rw [if_neg (by omega), if_neg (by omega), if_neg (by omega), if_neg (by omega)]
          rw [hesc] at HES
          have hch : tk.qbs ((s.drop pos).take 1) = (s.drop pos).take 1 := by
            rw [tk.drop_cons s pos hlt, List.take_succ_cons, List.take_zero]
            show tk.qb s[pos] ++ [] = _
            unfold tk.qb
            rw [← hr, if_neg (by omega), if_neg (by omega), if_neg (by omega)]
            rfl
          clear hesc hr hk34 hk92 hk10 hk9
          have HQ : Hid (tk.qbs (s.take (pos + 1)) = tk.qbs (s.take fr) ++ (s.take (pos + 1)).drop fr) := Lib.hid (by
            rw [drop_take_step s fr pos 1 hfr hw2, List.take_add, qbs_app, HN.out.2.2.2, hch, List.append_assoc])
          clear hch
          go_wp2_with fail
          refine (HES.out _).mono ?_
          rintro ev w4 ⟨rfl, hw⟩
          replace hw := hw.symm
          subst hw
          go_wp2_with fail
          go_roundg (s.length - (pos + 1))
          case measure => omega
          case rel => exact ⟨pos + 1, fr, rfl, by omega, hw2, Nat.le_refl _, Lib.hid ⟨HN.out.1, HN.out.2.1, HN.out.2.2.1, HQ.out⟩⟩
      · have hesc : kd.esc (r : Int) = [] := by unfold kd.esc; rw [if_neg (by omega), if_neg (by omega), if_neg (by omega), if_neg (by omega)]
        rw [hesc] at HES
        have hch : tk.qbs ((s.drop pos).take wd) = (s.drop pos).take wd := by
          refine qbs_hi _ (fun c hc => ?_)
          obtain ⟨j, hj, rfl⟩ := List.getElem_of_mem hc
          rw [List.length_take, List.length_drop] at hj
          rw [List.getElem_take, List.getElem_drop]
          exact hhi (pos + j) (by omega) (by omega) (by omega)
        clear hesc hhi
        have HQ : Hid (tk.qbs (s.take (pos + wd)) = tk.qbs (s.take fr) ++ (s.take (pos + wd)).drop fr) := Lib.hid (by
          rw [drop_take_step s fr pos wd hfr hw2, List.take_add, qbs_app, HN.out.2.2.2, hch, List.append_assoc])
        clear hch
        go_wp2_with fail
        refine (HES.out _).mono ?_
        rintro ev w4 ⟨rfl, hw⟩
        replace hw := hw.symm
        subst hw
        go_wp2_with fail
        go_roundg (s.length - (pos + wd))
        case measure => omega
        case rel => exact ⟨pos + wd, fr, rfl, by omega, hw2, Nat.le_refl _, Lib.hid ⟨HN.out.1, HN.out.2.1, HN.out.2.2.1, HQ.out⟩⟩
end Go.Proofs.YthmiaamjbokljaaGreatDoor
