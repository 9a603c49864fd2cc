/- The reader in memory; its next byte, for each test that is handed in. (made by tools/mkmdnext.py) -/
import Derived.Test.YtibpbnffennmeaaMdNums
namespace Go.Proofs.Ytibpbnffennmeaa
open Go.RowKit
/-- the reader in block p; its bytes lie below -/
structure RdAt (w : World) (p : Nat) (s : md.St) : Prop where
  ex : ∃ o cap, w.heap[p]? = some (.cells #[.slice o s.rest.length cap, .bool s.bad] 43 (0, 0)) ∧ BsIn w (fun k => k < p) (.slice o s.rest.length cap) s.rest
theorem RdAt.lt {w : World} {p : Nat} {s : md.St} (h : RdAt w p s) : p < w.heap.size := by
  obtain ⟨o, cap, hb, -⟩ := h.ex
  exact heap_lt hb
theorem RdAt.keep {w w' : World} {p : Nat} {s : md.St} (h : RdAt w p s) (hk : ∀ k, k ≤ p → w'.heap[k]? = w.heap[k]?) (hs : w.heap.size ≤ w'.heap.size) : RdAt w' p s := by
  obtain ⟨o, cap, hb, hi⟩ := h.ex
  exact ⟨o, cap, (hk p (Nat.le_refl _)).trans hb, RowIn.keep hi (fun k hd _ => hk k (Nat.le_of_lt hd)) hs fun _ h _ => h⟩
theorem RdAt.below {w w' : World} {p : Nat} {s : md.St} (h : RdAt w p s) (hb : Below w.heap.size w w') : RdAt w' p s := h.keep (fun k hk => hb.block k (Nat.lt_of_le_of_lt hk h.lt)) hb.size
theorem RdAt.set {w : World} {p : Nat} {s : md.St} (h : RdAt w p s) (a : Addr) (u : Value) (ha : p < a.block) : RdAt (w.setCell a u) p s := h.keep (fun k hk => Below.heap_setCell w a u k (by omega)) (by simp)
theorem RdAt.drew {w : World} {p : Nat} {s : md.St} (h : RdAt w p s) : RdAt w.drew p s := h.keep (fun _ _ => rfl) (Nat.le_refl _)
theorem RdAt.fr {S : Nat → Prop} {w w' : World} {p : Nat} {s : md.St} (h : RdAt w p s) (hf : Fr S w w') (hS : ∀ k, S k → p < k) : RdAt w' p s :=
  h.keep (fun k hk => hf.block k (Nat.lt_of_le_of_lt hk h.lt) (fun x => by have := hS k x; omega)) hf.size
theorem RdAt.fail {w : World} {p : Nat} {s : md.St} (h : RdAt w p s) : RdAt (w.setCell ⟨p, 1, none⟩ (.bool true)) p ⟨s.rest, true⟩ := by
  obtain ⟨o, cap, hb, hi⟩ := h.ex
  exact ⟨o, cap, heap_setCell_same w p 1 _ _ (.bool true) hb, RowIn.keep hi (fun k hd _ => Below.heap_setCell w ⟨p, 1, none⟩ _ k (show k ≠ p by omega)) (by simp) fun _ h _ => h⟩
theorem run_b1 (o : Option Addr) (n cap : Nat) (hn : 1 ≤ n) (k : IntKind) (wx : World) : (Instr.slice 22 (.slice o n cap) (some (.int k 1)) none none).run Try.prog wx = .ok (.slice (slo o cap 1) (n - 1) (cap - 1)) wx := by
  have := run_blo o n cap k 1 (by omega) wx
  simpa using this
theorem md.next_bad (f : UInt8 → Bool) (l : List UInt8) : md.next f ⟨l, true⟩ = (0, ⟨l, true⟩) := by cases l <;> rfl
theorem md.next_end (f : UInt8 → Bool) (b : Bool) : md.next f ⟨[], b⟩ = (0, ⟨[], true⟩) := rfl
theorem md.next_no (f : UInt8 → Bool) (c : UInt8) (r : List UInt8) (h : f c = false) : md.next f ⟨c :: r, false⟩ = (0, ⟨c :: r, true⟩) := by unfold md.next; simp only; rw [h]; rfl
set_option maxRecDepth 100000 in
set_option maxHeartbeats 1600000 in
theorem next_sign (f : UInt8 → Bool) (p q0 : Nat) (s : md.St) (w : World) (h : RdAt w p s) (hc : ∀ c : UInt8, Calls Try.prog 18 #[.int .u8 (c.toNat : Nat), .pointer (some ⟨q0, 0, none⟩)] w fun e w' => e = .returned (.bool (f c)) ∧ w' = w) :
    Calls Try.prog 17 #[.pointer (some ⟨p, 0, none⟩), .func (.func 18) #[] #[.pointer (some ⟨q0, 0, none⟩)]] w fun e w' => e = .returned (.int .u8 ((md.next f s).1.toNat : Nat)) ∧ RdAt w' p (md.next f s).2 ∧ Fr (· = p) w w' := by
  have hp := h.lt
  have HFAIL := Lib.hid (And.intro h.fail ((Fr.refl (· = p) w).setCell ⟨p, 1, none⟩ (.bool true) (.inr rfl)))
  obtain ⟨o, cap, hb, hi⟩ := h.ex
  obtain ⟨l, bad⟩ := s
  dsimp only at hb hi
  have c0 : w.cell? ⟨p, 0, none⟩ = some (.slice o l.length cap) := (cell_of_heap hb).trans rfl
  have c1 : w.cell? ⟨p, 1, none⟩ = some (.bool bad) := (cell_of_heap hb).trans rfl
  have f0 := thaw (k := 0) hb
  have f1 := thaw (k := 1) hb
  obtain ⟨hl1, hl2⟩ := (RowIn.lens hi).2
  cases bad with
  | true =>
    have HZ := Lib.hid (md.next_bad f l)
    clear hb hi h
    generalize l.length = n at *
    go_enter Try.func17, Try.ntmps17
    go_wp2_with fail
    go_ret
    rw [HZ.out]
    exact ⟨rfl, HFAIL.out⟩
  | false =>
    cases l with
    | nil =>
      have HZ := Lib.hid (md.next_end f false)
      clear hb hi h
      go_enter Try.func17, Try.ntmps17
      go_wp2_with fail
      go_ret
      rw [HZ.out]
      exact ⟨rfl, HFAIL.out⟩
    | cons c r =>
      have hlen : (c :: r).length = r.length + 1 := rfl
      rw [hlen] at c0 hl1
      obtain ⟨b, off, rfl, hbl, k0⟩ := BsIn.cell hi 0 (by simp)
      simp only [Nat.add_zero, List.getElem_cons_zero] at k0
      have hsl := run_b1 (some ⟨b, off, none⟩) (r.length + 1) cap (by omega)
      rw [Nat.add_sub_cancel] at hsl
      have hdr := BsIn.drop hi 1 (by simp)
      have HTAKE : Hid (RdAt (w.setCell ⟨p, 0, none⟩ (.slice (slo (some ⟨b, off, none⟩) cap 1) r.length (cap - 1))) p ⟨r, false⟩ ∧ Fr (· = p) w (w.setCell ⟨p, 0, none⟩ (.slice (slo (some ⟨b, off, none⟩) cap 1) r.length (cap - 1)))) :=
        Lib.hid ⟨⟨_, _, heap_setCell_same w p 0 _ _ _ hb, RowIn.keep hdr (fun k hd _ => Below.heap_setCell w ⟨p, 0, none⟩ _ k (show k ≠ p by omega)) (by simp) fun _ h _ => h⟩, (Fr.refl (· = p) w).setCell ⟨p, 0, none⟩ _ (.inr rfl)⟩
      have HC := Lib.hid (hc c)
      have HY : Hid (f c = true → md.next f ⟨c :: r, false⟩ = (c, ⟨r, false⟩)) := Lib.hid (fun h => md.next_ok h)
      have HN : Hid (f c = false → md.next f ⟨c :: r, false⟩ = (0, ⟨c :: r, true⟩)) := Lib.hid (fun h => md.next_no f c r h)
      clear hb hi h hc hdr hlen
      generalize md.next f ⟨c :: r, false⟩ = R at *
      generalize r.length = n at *
      cases hfc : f c with
      | true =>
        have HZ := Lib.hid (HY.out hfc)
        rw [hfc] at HC
        clear HY HN hfc HFAIL
        go_enter Try.func17, Try.ntmps17
        go_wp2_with fail
        refine HC.out.mono ?_
        rintro e w' ⟨rfl, hw⟩
        replace hw := hw.symm
        subst hw
        go_wp2_with fail
        go_ret
        rw [HZ.out]
        exact ⟨rfl, HTAKE.out⟩
      | false =>
        have HZ := Lib.hid (HN.out hfc)
        rw [hfc] at HC
        clear HY HN hfc HTAKE
        go_enter Try.func17, Try.ntmps17
        go_wp2_with fail
        refine HC.out.mono ?_
        rintro e w' ⟨rfl, hw⟩
        replace hw := hw.symm
        subst hw
        go_wp2_with fail
        go_ret
        rw [HZ.out]
        exact ⟨rfl, HFAIL.out⟩
set_option maxRecDepth 100000 in
set_option maxHeartbeats 1600000 in
theorem next_two2 (f : UInt8 → Bool) (p q0 : Nat) (s : md.St) (w : World) (h : RdAt w p s) (hc : ∀ c : UInt8, Calls Try.prog 32 #[.int .u8 (c.toNat : Nat), .pointer (some ⟨q0, 0, none⟩)] w fun e w' => e = .returned (.bool (f c)) ∧ w' = w) :
    Calls Try.prog 17 #[.pointer (some ⟨p, 0, none⟩), .func (.func 32) #[] #[.pointer (some ⟨q0, 0, none⟩)]] w fun e w' => e = .returned (.int .u8 ((md.next f s).1.toNat : Nat)) ∧ RdAt w' p (md.next f s).2 ∧ Fr (· = p) w w' := by
  have hp := h.lt
  have HFAIL := Lib.hid (And.intro h.fail ((Fr.refl (· = p) w).setCell ⟨p, 1, none⟩ (.bool true) (.inr rfl)))
  obtain ⟨o, cap, hb, hi⟩ := h.ex
  obtain ⟨l, bad⟩ := s
  dsimp only at hb hi
  have c0 : w.cell? ⟨p, 0, none⟩ = some (.slice o l.length cap) := (cell_of_heap hb).trans rfl
  have c1 : w.cell? ⟨p, 1, none⟩ = some (.bool bad) := (cell_of_heap hb).trans rfl
  have f0 := thaw (k := 0) hb
  have f1 := thaw (k := 1) hb
  obtain ⟨hl1, hl2⟩ := (RowIn.lens hi).2
  cases bad with
  | true =>
    have HZ := Lib.hid (md.next_bad f l)
    clear hb hi h
    generalize l.length = n at *
    go_enter Try.func17, Try.ntmps17
    go_wp2_with fail
    go_ret
    rw [HZ.out]
    exact ⟨rfl, HFAIL.out⟩
  | false =>
    cases l with
    | nil =>
      have HZ := Lib.hid (md.next_end f false)
      clear hb hi h
      go_enter Try.func17, Try.ntmps17
      go_wp2_with fail
      go_ret
      rw [HZ.out]
      exact ⟨rfl, HFAIL.out⟩
    | cons c r =>
      have hlen : (c :: r).length = r.length + 1 := rfl
      rw [hlen] at c0 hl1
      obtain ⟨b, off, rfl, hbl, k0⟩ := BsIn.cell hi 0 (by simp)
      simp only [Nat.add_zero, List.getElem_cons_zero] at k0
      have hsl := run_b1 (some ⟨b, off, none⟩) (r.length + 1) cap (by omega)
      rw [Nat.add_sub_cancel] at hsl
      have hdr := BsIn.drop hi 1 (by simp)
      have HTAKE : Hid (RdAt (w.setCell ⟨p, 0, none⟩ (.slice (slo (some ⟨b, off, none⟩) cap 1) r.length (cap - 1))) p ⟨r, false⟩ ∧ Fr (· = p) w (w.setCell ⟨p, 0, none⟩ (.slice (slo (some ⟨b, off, none⟩) cap 1) r.length (cap - 1)))) :=
        Lib.hid ⟨⟨_, _, heap_setCell_same w p 0 _ _ _ hb, RowIn.keep hdr (fun k hd _ => Below.heap_setCell w ⟨p, 0, none⟩ _ k (show k ≠ p by omega)) (by simp) fun _ h _ => h⟩, (Fr.refl (· = p) w).setCell ⟨p, 0, none⟩ _ (.inr rfl)⟩
      have HC := Lib.hid (hc c)
      have HY : Hid (f c = true → md.next f ⟨c :: r, false⟩ = (c, ⟨r, false⟩)) := Lib.hid (fun h => md.next_ok h)
      have HN : Hid (f c = false → md.next f ⟨c :: r, false⟩ = (0, ⟨c :: r, true⟩)) := Lib.hid (fun h => md.next_no f c r h)
      clear hb hi h hc hdr hlen
      generalize md.next f ⟨c :: r, false⟩ = R at *
      generalize r.length = n at *
      cases hfc : f c with
      | true =>
        have HZ := Lib.hid (HY.out hfc)
        rw [hfc] at HC
        clear HY HN hfc HFAIL
        go_enter Try.func17, Try.ntmps17
        go_wp2_with fail
        refine HC.out.mono ?_
        rintro e w' ⟨rfl, hw⟩
        replace hw := hw.symm
        subst hw
        go_wp2_with fail
        go_ret
        rw [HZ.out]
        exact ⟨rfl, HTAKE.out⟩
      | false =>
        have HZ := Lib.hid (HN.out hfc)
        rw [hfc] at HC
        clear HY HN hfc HTAKE
        go_enter Try.func17, Try.ntmps17
        go_wp2_with fail
        refine HC.out.mono ?_
        rintro e w' ⟨rfl, hw⟩
        replace hw := hw.symm
        subst hw
        go_wp2_with fail
        go_ret
        rw [HZ.out]
        exact ⟨rfl, HFAIL.out⟩
set_option maxRecDepth 100000 in
set_option maxHeartbeats 1600000 in
theorem next_two3 (f : UInt8 → Bool) (p q0 q1 : Nat) (s : md.St) (w : World) (h : RdAt w p s) (hc : ∀ c : UInt8, Calls Try.prog 33 #[.int .u8 (c.toNat : Nat), .pointer (some ⟨q0, 0, none⟩), .pointer (some ⟨q1, 0, none⟩)] w fun e w' => e = .returned (.bool (f c)) ∧ w' = w) :
    Calls Try.prog 17 #[.pointer (some ⟨p, 0, none⟩), .func (.func 33) #[] #[.pointer (some ⟨q0, 0, none⟩), .pointer (some ⟨q1, 0, none⟩)]] w fun e w' => e = .returned (.int .u8 ((md.next f s).1.toNat : Nat)) ∧ RdAt w' p (md.next f s).2 ∧ Fr (· = p) w w' := by
  have hp := h.lt
  have HFAIL := Lib.hid (And.intro h.fail ((Fr.refl (· = p) w).setCell ⟨p, 1, none⟩ (.bool true) (.inr rfl)))
  obtain ⟨o, cap, hb, hi⟩ := h.ex
  obtain ⟨l, bad⟩ := s
  dsimp only at hb hi
  have c0 : w.cell? ⟨p, 0, none⟩ = some (.slice o l.length cap) := (cell_of_heap hb).trans rfl
  have c1 : w.cell? ⟨p, 1, none⟩ = some (.bool bad) := (cell_of_heap hb).trans rfl
  have f0 := thaw (k := 0) hb
  have f1 := thaw (k := 1) hb
  obtain ⟨hl1, hl2⟩ := (RowIn.lens hi).2
  cases bad with
  | true =>
    have HZ := Lib.hid (md.next_bad f l)
    clear hb hi h
    generalize l.length = n at *
    go_enter Try.func17, Try.ntmps17
    go_wp2_with fail
    go_ret
    rw [HZ.out]
    exact ⟨rfl, HFAIL.out⟩
  | false =>
    cases l with
    | nil =>
      have HZ := Lib.hid (md.next_end f false)
      clear hb hi h
      go_enter Try.func17, Try.ntmps17
      go_wp2_with fail
      go_ret
      rw [HZ.out]
      exact ⟨rfl, HFAIL.out⟩
    | cons c r =>
      have hlen : (c :: r).length = r.length + 1 := rfl
      rw [hlen] at c0 hl1
      obtain ⟨b, off, rfl, hbl, k0⟩ := BsIn.cell hi 0 (by simp)
      simp only [Nat.add_zero, List.getElem_cons_zero] at k0
      have hsl := run_b1 (some ⟨b, off, none⟩) (r.length + 1) cap (by omega)
      rw [Nat.add_sub_cancel] at hsl
      have hdr := BsIn.drop hi 1 (by simp)
      have HTAKE : Hid (RdAt (w.setCell ⟨p, 0, none⟩ (.slice (slo (some ⟨b, off, none⟩) cap 1) r.length (cap - 1))) p ⟨r, false⟩ ∧ Fr (· = p) w (w.setCell ⟨p, 0, none⟩ (.slice (slo (some ⟨b, off, none⟩) cap 1) r.length (cap - 1)))) :=
        Lib.hid ⟨⟨_, _, heap_setCell_same w p 0 _ _ _ hb, RowIn.keep hdr (fun k hd _ => Below.heap_setCell w ⟨p, 0, none⟩ _ k (show k ≠ p by omega)) (by simp) fun _ h _ => h⟩, (Fr.refl (· = p) w).setCell ⟨p, 0, none⟩ _ (.inr rfl)⟩
      have HC := Lib.hid (hc c)
      have HY : Hid (f c = true → md.next f ⟨c :: r, false⟩ = (c, ⟨r, false⟩)) := Lib.hid (fun h => md.next_ok h)
      have HN : Hid (f c = false → md.next f ⟨c :: r, false⟩ = (0, ⟨c :: r, true⟩)) := Lib.hid (fun h => md.next_no f c r h)
      clear hb hi h hc hdr hlen
      generalize md.next f ⟨c :: r, false⟩ = R at *
      generalize r.length = n at *
      cases hfc : f c with
      | true =>
        have HZ := Lib.hid (HY.out hfc)
        rw [hfc] at HC
        clear HY HN hfc HFAIL
        go_enter Try.func17, Try.ntmps17
        go_wp2_with fail
        refine HC.out.mono ?_
        rintro e w' ⟨rfl, hw⟩
        replace hw := hw.symm
        subst hw
        go_wp2_with fail
        go_ret
        rw [HZ.out]
        exact ⟨rfl, HTAKE.out⟩
      | false =>
        have HZ := Lib.hid (HN.out hfc)
        rw [hfc] at HC
        clear HY HN hfc HTAKE
        go_enter Try.func17, Try.ntmps17
        go_wp2_with fail
        refine HC.out.mono ?_
        rintro e w' ⟨rfl, hw⟩
        replace hw := hw.symm
        subst hw
        go_wp2_with fail
        go_ret
        rw [HZ.out]
        exact ⟨rfl, HFAIL.out⟩
set_option maxRecDepth 100000 in
set_option maxHeartbeats 1600000 in
theorem next_data (f : UInt8 → Bool) (p : Nat) (s : md.St) (w : World) (h : RdAt w p s) (hc : ∀ c : UInt8, Calls Try.prog 34 #[.int .u8 (c.toNat : Nat)] w fun e w' => e = .returned (.bool (f c)) ∧ w' = w) :
    Calls Try.prog 17 #[.pointer (some ⟨p, 0, none⟩), .func (.func 34) #[] #[]] w fun e w' => e = .returned (.int .u8 ((md.next f s).1.toNat : Nat)) ∧ RdAt w' p (md.next f s).2 ∧ Fr (· = p) w w' := by
  have hp := h.lt
  have HFAIL := Lib.hid (And.intro h.fail ((Fr.refl (· = p) w).setCell ⟨p, 1, none⟩ (.bool true) (.inr rfl)))
  obtain ⟨o, cap, hb, hi⟩ := h.ex
  obtain ⟨l, bad⟩ := s
  dsimp only at hb hi
  have c0 : w.cell? ⟨p, 0, none⟩ = some (.slice o l.length cap) := (cell_of_heap hb).trans rfl
  have c1 : w.cell? ⟨p, 1, none⟩ = some (.bool bad) := (cell_of_heap hb).trans rfl
  have f0 := thaw (k := 0) hb
  have f1 := thaw (k := 1) hb
  obtain ⟨hl1, hl2⟩ := (RowIn.lens hi).2
  cases bad with
  | true =>
    have HZ := Lib.hid (md.next_bad f l)
    clear hb hi h
    generalize l.length = n at *
    go_enter Try.func17, Try.ntmps17
    go_wp2_with fail
    go_ret
    rw [HZ.out]
    exact ⟨rfl, HFAIL.out⟩
  | false =>
    cases l with
    | nil =>
      have HZ := Lib.hid (md.next_end f false)
      clear hb hi h
      go_enter Try.func17, Try.ntmps17
      go_wp2_with fail
      go_ret
      rw [HZ.out]
      exact ⟨rfl, HFAIL.out⟩
    | cons c r =>
      have hlen : (c :: r).length = r.length + 1 := rfl
      rw [hlen] at c0 hl1
      obtain ⟨b, off, rfl, hbl, k0⟩ := BsIn.cell hi 0 (by simp)
      simp only [Nat.add_zero, List.getElem_cons_zero] at k0
      have hsl := run_b1 (some ⟨b, off, none⟩) (r.length + 1) cap (by omega)
      rw [Nat.add_sub_cancel] at hsl
      have hdr := BsIn.drop hi 1 (by simp)
      have HTAKE : Hid (RdAt (w.setCell ⟨p, 0, none⟩ (.slice (slo (some ⟨b, off, none⟩) cap 1) r.length (cap - 1))) p ⟨r, false⟩ ∧ Fr (· = p) w (w.setCell ⟨p, 0, none⟩ (.slice (slo (some ⟨b, off, none⟩) cap 1) r.length (cap - 1)))) :=
        Lib.hid ⟨⟨_, _, heap_setCell_same w p 0 _ _ _ hb, RowIn.keep hdr (fun k hd _ => Below.heap_setCell w ⟨p, 0, none⟩ _ k (show k ≠ p by omega)) (by simp) fun _ h _ => h⟩, (Fr.refl (· = p) w).setCell ⟨p, 0, none⟩ _ (.inr rfl)⟩
      have HC := Lib.hid (hc c)
      have HY : Hid (f c = true → md.next f ⟨c :: r, false⟩ = (c, ⟨r, false⟩)) := Lib.hid (fun h => md.next_ok h)
      have HN : Hid (f c = false → md.next f ⟨c :: r, false⟩ = (0, ⟨c :: r, true⟩)) := Lib.hid (fun h => md.next_no f c r h)
      clear hb hi h hc hdr hlen
      generalize md.next f ⟨c :: r, false⟩ = R at *
      generalize r.length = n at *
      cases hfc : f c with
      | true =>
        have HZ := Lib.hid (HY.out hfc)
        rw [hfc] at HC
        clear HY HN hfc HFAIL
        go_enter Try.func17, Try.ntmps17
        go_wp2_with fail
        refine HC.out.mono ?_
        rintro e w' ⟨rfl, hw⟩
        replace hw := hw.symm
        subst hw
        go_wp2_with fail
        go_ret
        rw [HZ.out]
        exact ⟨rfl, HTAKE.out⟩
      | false =>
        have HZ := Lib.hid (HN.out hfc)
        rw [hfc] at HC
        clear HY HN hfc HTAKE
        go_enter Try.func17, Try.ntmps17
        go_wp2_with fail
        refine HC.out.mono ?_
        rintro e w' ⟨rfl, hw⟩
        replace hw := hw.symm
        subst hw
        go_wp2_with fail
        go_ret
        rw [HZ.out]
        exact ⟨rfl, HFAIL.out⟩
set_option maxRecDepth 100000 in
set_option maxHeartbeats 1600000 in
theorem next_one (f : UInt8 → Bool) (p q0 q1 : Nat) (s : md.St) (w : World) (h : RdAt w p s) (hc : ∀ c : UInt8, Calls Try.prog 35 #[.int .u8 (c.toNat : Nat), .pointer (some ⟨q0, 0, none⟩), .pointer (some ⟨q1, 0, none⟩)] w fun e w' => e = .returned (.bool (f c)) ∧ w' = w) :
    Calls Try.prog 17 #[.pointer (some ⟨p, 0, none⟩), .func (.func 35) #[] #[.pointer (some ⟨q0, 0, none⟩), .pointer (some ⟨q1, 0, none⟩)]] w fun e w' => e = .returned (.int .u8 ((md.next f s).1.toNat : Nat)) ∧ RdAt w' p (md.next f s).2 ∧ Fr (· = p) w w' := by
  have hp := h.lt
  have HFAIL := Lib.hid (And.intro h.fail ((Fr.refl (· = p) w).setCell ⟨p, 1, none⟩ (.bool true) (.inr rfl)))
  obtain ⟨o, cap, hb, hi⟩ := h.ex
  obtain ⟨l, bad⟩ := s
  dsimp only at hb hi
  have c0 : w.cell? ⟨p, 0, none⟩ = some (.slice o l.length cap) := (cell_of_heap hb).trans rfl
  have c1 : w.cell? ⟨p, 1, none⟩ = some (.bool bad) := (cell_of_heap hb).trans rfl
  have f0 := thaw (k := 0) hb
  have f1 := thaw (k := 1) hb
  obtain ⟨hl1, hl2⟩ := (RowIn.lens hi).2
  cases bad with
  | true =>
    have HZ := Lib.hid (md.next_bad f l)
    clear hb hi h
    generalize l.length = n at *
    go_enter Try.func17, Try.ntmps17
    go_wp2_with fail
    go_ret
    rw [HZ.out]
    exact ⟨rfl, HFAIL.out⟩
  | false =>
    cases l with
    | nil =>
      have HZ := Lib.hid (md.next_end f false)
      clear hb hi h
      go_enter Try.func17, Try.ntmps17
      go_wp2_with fail
      go_ret
      rw [HZ.out]
      exact ⟨rfl, HFAIL.out⟩
    | cons c r =>
      have hlen : (c :: r).length = r.length + 1 := rfl
      rw [hlen] at c0 hl1
      obtain ⟨b, off, rfl, hbl, k0⟩ := BsIn.cell hi 0 (by simp)
      simp only [Nat.add_zero, List.getElem_cons_zero] at k0
      have hsl := run_b1 (some ⟨b, off, none⟩) (r.length + 1) cap (by omega)
      rw [Nat.add_sub_cancel] at hsl
      have hdr := BsIn.drop hi 1 (by simp)
      have HTAKE : Hid (RdAt (w.setCell ⟨p, 0, none⟩ (.slice (slo (some ⟨b, off, none⟩) cap 1) r.length (cap - 1))) p ⟨r, false⟩ ∧ Fr (· = p) w (w.setCell ⟨p, 0, none⟩ (.slice (slo (some ⟨b, off, none⟩) cap 1) r.length (cap - 1)))) :=
        Lib.hid ⟨⟨_, _, heap_setCell_same w p 0 _ _ _ hb, RowIn.keep hdr (fun k hd _ => Below.heap_setCell w ⟨p, 0, none⟩ _ k (show k ≠ p by omega)) (by simp) fun _ h _ => h⟩, (Fr.refl (· = p) w).setCell ⟨p, 0, none⟩ _ (.inr rfl)⟩
      have HC := Lib.hid (hc c)
      have HY : Hid (f c = true → md.next f ⟨c :: r, false⟩ = (c, ⟨r, false⟩)) := Lib.hid (fun h => md.next_ok h)
      have HN : Hid (f c = false → md.next f ⟨c :: r, false⟩ = (0, ⟨c :: r, true⟩)) := Lib.hid (fun h => md.next_no f c r h)
      clear hb hi h hc hdr hlen
      generalize md.next f ⟨c :: r, false⟩ = R at *
      generalize r.length = n at *
      cases hfc : f c with
      | true =>
        have HZ := Lib.hid (HY.out hfc)
        rw [hfc] at HC
        clear HY HN hfc HFAIL
        go_enter Try.func17, Try.ntmps17
        go_wp2_with fail
        refine HC.out.mono ?_
        rintro e w' ⟨rfl, hw⟩
        replace hw := hw.symm
        subst hw
        go_wp2_with fail
        go_ret
        rw [HZ.out]
        exact ⟨rfl, HTAKE.out⟩
      | false =>
        have HZ := Lib.hid (HN.out hfc)
        rw [hfc] at HC
        clear HY HN hfc HTAKE
        go_enter Try.func17, Try.ntmps17
        go_wp2_with fail
        refine HC.out.mono ?_
        rintro e w' ⟨rfl, hw⟩
        replace hw := hw.symm
        subst hw
        go_wp2_with fail
        go_ret
        rw [HZ.out]
        exact ⟨rfl, HFAIL.out⟩
set_option maxRecDepth 100000 in
set_option maxHeartbeats 1600000 in
theorem next_num (f : UInt8 → Bool) (p q0 : Nat) (s : md.St) (w : World) (h : RdAt w p s) (hc : ∀ c : UInt8, Calls Try.prog 45 #[.int .u8 (c.toNat : Nat), .pointer (some ⟨q0, 0, none⟩)] w fun e w' => e = .returned (.bool (f c)) ∧ w' = w) :
    Calls Try.prog 17 #[.pointer (some ⟨p, 0, none⟩), .func (.func 45) #[] #[.pointer (some ⟨q0, 0, none⟩)]] w fun e w' => e = .returned (.int .u8 ((md.next f s).1.toNat : Nat)) ∧ RdAt w' p (md.next f s).2 ∧ Fr (· = p) w w' := by
  have hp := h.lt
  have HFAIL := Lib.hid (And.intro h.fail ((Fr.refl (· = p) w).setCell ⟨p, 1, none⟩ (.bool true) (.inr rfl)))
  obtain ⟨o, cap, hb, hi⟩ := h.ex
  obtain ⟨l, bad⟩ := s
  dsimp only at hb hi
  have c0 : w.cell? ⟨p, 0, none⟩ = some (.slice o l.length cap) := (cell_of_heap hb).trans rfl
  have c1 : w.cell? ⟨p, 1, none⟩ = some (.bool bad) := (cell_of_heap hb).trans rfl
  have f0 := thaw (k := 0) hb
  have f1 := thaw (k := 1) hb
  obtain ⟨hl1, hl2⟩ := (RowIn.lens hi).2
  cases bad with
  | true =>
    have HZ := Lib.hid (md.next_bad f l)
    clear hb hi h
    generalize l.length = n at *
    go_enter Try.func17, Try.ntmps17
    go_wp2_with fail
    go_ret
    rw [HZ.out]
    exact ⟨rfl, HFAIL.out⟩
  | false =>
    cases l with
    | nil =>
      have HZ := Lib.hid (md.next_end f false)
      clear hb hi h
      go_enter Try.func17, Try.ntmps17
      go_wp2_with fail
      go_ret
      rw [HZ.out]
      exact ⟨rfl, HFAIL.out⟩
    | cons c r =>
      have hlen : (c :: r).length = r.length + 1 := rfl
      rw [hlen] at c0 hl1
      obtain ⟨b, off, rfl, hbl, k0⟩ := BsIn.cell hi 0 (by simp)
      simp only [Nat.add_zero, List.getElem_cons_zero] at k0
      have hsl := run_b1 (some ⟨b, off, none⟩) (r.length + 1) cap (by omega)
      rw [Nat.add_sub_cancel] at hsl
      have hdr := BsIn.drop hi 1 (by simp)
      have HTAKE : Hid (RdAt (w.setCell ⟨p, 0, none⟩ (.slice (slo (some ⟨b, off, none⟩) cap 1) r.length (cap - 1))) p ⟨r, false⟩ ∧ Fr (· = p) w (w.setCell ⟨p, 0, none⟩ (.slice (slo (some ⟨b, off, none⟩) cap 1) r.length (cap - 1)))) :=
        Lib.hid ⟨⟨_, _, heap_setCell_same w p 0 _ _ _ hb, RowIn.keep hdr (fun k hd _ => Below.heap_setCell w ⟨p, 0, none⟩ _ k (show k ≠ p by omega)) (by simp) fun _ h _ => h⟩, (Fr.refl (· = p) w).setCell ⟨p, 0, none⟩ _ (.inr rfl)⟩
      have HC := Lib.hid (hc c)
      have HY : Hid (f c = true → md.next f ⟨c :: r, false⟩ = (c, ⟨r, false⟩)) := Lib.hid (fun h => md.next_ok h)
      have HN : Hid (f c = false → md.next f ⟨c :: r, false⟩ = (0, ⟨c :: r, true⟩)) := Lib.hid (fun h => md.next_no f c r h)
      clear hb hi h hc hdr hlen
      generalize md.next f ⟨c :: r, false⟩ = R at *
      generalize r.length = n at *
      cases hfc : f c with
      | true =>
        have HZ := Lib.hid (HY.out hfc)
        rw [hfc] at HC
        clear HY HN hfc HFAIL
        go_enter Try.func17, Try.ntmps17
        go_wp2_with fail
        refine HC.out.mono ?_
        rintro e w' ⟨rfl, hw⟩
        replace hw := hw.symm
        subst hw
        go_wp2_with fail
        go_ret
        rw [HZ.out]
        exact ⟨rfl, HTAKE.out⟩
      | false =>
        have HZ := Lib.hid (HN.out hfc)
        rw [hfc] at HC
        clear HY HN hfc HTAKE
        go_enter Try.func17, Try.ntmps17
        go_wp2_with fail
        refine HC.out.mono ?_
        rintro e w' ⟨rfl, hw⟩
        replace hw := hw.symm
        subst hw
        go_wp2_with fail
        go_ret
        rw [HZ.out]
        exact ⟨rfl, HFAIL.out⟩
end Go.Proofs.Ytibpbnffennmeaa
