/- Shut, Publish, Kinds, Ready, New; SameInts. -/
import Derived.Test.YtgegphciaejkiaaBuTake
namespace Go.Proofs.Ytgegphciaejkiaa
open Go.RowKit
theorem BoolAns.eq {w w' : World} {e : Ending} {r r' : Bool} (h : BoolAns w w' e r) (hr : r = r') : BoolAns w w' e r' := hr ▸ h
theorem inC_take {xs ys : List Int} {k : Nat} (h : xs.take k = ys.take k) (hx : k < xs.length) (hy : k < ys.length) (e : xs[k] = ys[k]) : xs.take (k + 1) = ys.take (k + 1) := by
  rw [List.take_add_one, List.take_add_one, h, List.getElem?_eq_getElem hx, List.getElem?_eq_getElem hy, e]
theorem inC_all {xs ys : List Int} {n : Nat} (hx : xs.length = n) (hy : ys.length = n) (h : xs.take n = ys.take n) : xs = ys := by
  rwa [List.take_of_length_le (by omega), List.take_of_length_le (by omega)] at h
theorem NsIn.cell {w : World} {D : Nat → Prop} {o : Option Addr} {m cap : Nat} {l : List Int} (h : NsIn w D (.slice o m cap) l) (k : Nat) (hk : k < l.length) : ∃ b off, o = some ⟨b, off, none⟩ ∧ b < w.heap.size ∧ w.cell? ⟨b, off + k, none⟩ = some (.int .i64 l[k]) := by
  obtain ⟨b, off, e, -, hlt, hc⟩ := RowIn.at_ h k hk
  exact ⟨b, off, e, hlt, hc k _ (by simp [inC, hk])⟩
set_option maxRecDepth 100000 in
set_option maxHeartbeats 1600000 in
theorem sameInts_any (D D' : Nat → Prop) (V V' : Value) (xs ys : List Int) (w : World) (hx : NsIn w D V xs) (hy : NsIn w D' V' ys) :
    Calls Try.prog 14 #[V, V'] w fun e w' => BoolAns w w' e (decide (xs = ys)) := by
  obtain ⟨R, hR⟩ : ∃ R, decide (xs = ys) = R := ⟨_, rfl⟩
  rw [hR]
  have HR := Lib.hid hR
  obtain ⟨o, cap, rfl, hle, hm, -⟩ := id hx
  obtain ⟨o', cap', rfl, hle', hm', -⟩ := id hy
  have HX := Lib.hid hx
  have HY := Lib.hid hy
  clear hR
  by_cases hn : xs.length = ys.length
  · clear hx hy
    rw [← hn] at hle'
    obtain ⟨n, hn0⟩ : ∃ n, xs.length = n := ⟨_, rfl⟩
    have HNX := Lib.hid hn0
    have HNY := Lib.hid (hn.symm.trans hn0)
    rw [← hn, hn0]
    rw [hn0] at hle hle'
    clear hn hn0
    go_enter Try.func14, Try.ntmps14
    go_wp2_with fail
    go_loopg [5] n (fun gg s5 wr => ∃ k : Nat, s5 = .int .i64 k ∧ k ≤ n ∧ n - k ≤ gg ∧ Hid (xs.take k = ys.take k ∧ Below w.heap.size w wr))
    case atStart => exact ⟨0, rfl, Nat.zero_le _, by omega, Lib.hid ⟨rfl, Below.refl _ _⟩⟩
    case round =>
      obtain ⟨k, rfl, hk, hgg, HA⟩ := hrel
      by_cases hlt : k < n
      · have hkx : k < xs.length := by rw [HNX.out]; exact hlt
        have hky : k < ys.length := by rw [HNY.out]; exact hlt
        obtain ⟨b, off, rfl, hb, k0⟩ := NsIn.cell (RowIn.below HX.out HA.out.2) k hkx
        obtain ⟨b', off', rfl, hb', k0'⟩ := NsIn.cell (RowIn.below HY.out HA.out.2) k hky
        have hst := fun h => inC_take (k := k) HA.out.1 hkx hky h
        have hne : xs[k] ≠ ys[k] → decide (xs = ys) = false := fun h => decide_eq_false (fun e => h (by simp only [e]))
        generalize xs[k] = x at *
        generalize ys[k] = y at *
        have HS := Lib.hid hst
        have HN := Lib.hid hne
        clear hst hne
        have hki : (k : Int) < (n : Int) := by omega
        by_cases e : x = y
        · have HSS := Lib.hid (And.intro (HS.out e) HA.out.2)
          subst e
          go_wp2_with fail
          go_quiet (fail)
          go_wp2_with fail
          go_roundg (n - (k + 1))
          case measure => omega
          case rel => exact ⟨k + 1, by go_num, by omega, Nat.le_refl _, Lib.hid ⟨HSS.out.1, below_dN HSS.out.2 _⟩⟩
        · have HNN := Lib.hid (HN.out e)
          have e2 : (x != y) = true := by simpa using e
          have e1 : (x == y) = false := by simpa using e
          clear e
          go_wp2_with fail
          go_quiet (fail)
          go_wp2_with fail
          go_ret
          exact BoolAns.eq ⟨ret_bool HNN.out.symm, below_dN HA.out.2 _⟩ HR.out
      · obtain rfl : k = n := by omega
        have HD := Lib.hid (show decide (xs = ys) = true from decide_eq_true (inC_all HNX.out HNY.out HA.out.1))
        go_wp2_with fail
        go_ret
        exact BoolAns.eq ⟨ret_bool HD.out.symm, HA.out.2⟩ HR.out
  · have HD := Lib.hid (show decide (xs = ys) = false from decide_eq_false (fun e => hn (by rw [e])))
    have hi : ((xs.length : Int) != (ys.length : Int)) = true := by simp; omega
    have hi2 : ((xs.length : Int) == (ys.length : Int)) = false := by simp; omega
    clear hx hy
    generalize xs.length = n at *
    generalize ys.length = m at *
    go_enter Try.func14, Try.ntmps14
    go_wp2_with fail
    go_ret
    exact BoolAns.eq ⟨ret_bool HD.out.symm, Below.refl _ _⟩ HR.out
theorem sameInts_eq (D D' : Nat → Prop) (V V' : Value) (xs : List Int) (w : World) (hx : NsIn w D V xs) (hy : NsIn w D' V' xs) : Calls Try.prog 14 #[V, V'] w fun e w' => BoolAns w w' e true := by
  have h := sameInts_any D D' V V' xs xs w hx hy
  rw [decide_eq_true rfl] at h
  exact h
theorem NsIn.new (w : World) (l : List Int) (X : Array Value) (hX : X = (inC l).toArray) (n : Nat) (hn : n = l.length) (hl : n ≤ 1000) : NsIn (w.alloc (.cells X 3)) (fun _ => True) (.slice (some ⟨w.heap.size, 0, none⟩) n n) l := by
  subst hX hn
  have h := heap_alloc_new w (.cells (inC l).toArray 3)
  refine ⟨_, _, rfl, Nat.le_refl _, by omega, by simp [inC], .inr ⟨w.heap.size, 0, rfl, trivial, heap_lt h, fun k v hv => ?_⟩⟩
  rw [Nat.zero_add, cell_of_heap h]
  simpa using hv
def zsL : List Value := [.bool false, .bool false, .bool false, .bool false, .bool false, .bool false, .bool false, .bool false, .bool false, .slice none 0 0, .int .i64 0]
abbrev shutW (w : World) (q i : Nat) : World := (((((((((((w.setCell ⟨q, i * 11, none⟩ (.bool false)).setCell ⟨q, i * 11 + 1, none⟩ (.bool false)).setCell ⟨q, i * 11 + 2, none⟩ (.bool false)).setCell ⟨q, i * 11 + 3, none⟩ (.bool false)).setCell ⟨q, i * 11 + 4, none⟩ (.bool false)).setCell ⟨q, i * 11 + 5, none⟩ (.bool false)).setCell ⟨q, i * 11 + 6, none⟩ (.bool false)).setCell ⟨q, i * 11 + 7, none⟩ (.bool false)).setCell ⟨q, i * 11 + 8, none⟩ (.bool false)).setCell ⟨q, i * 11 + 9, none⟩ (.slice none 0 0)).setCell ⟨q, i * 11 + 10, none⟩ (.int .i64 0))
theorem shutW_eq (w : World) (q i : Nat) : shutW w q i = w.setCells q (i * 11) zsL := rfl
theorem shut_at {w : World} {q : Nat} {S : Nat → bu.Slot} {V : Nat → Value} (h : BuAt w q S V) {i : Nat} (hi : i < 4) : BuR q V w (w.setCells q (i * 11) zsL) (bu.upd S i bu.Slot.zero) := by
  obtain ⟨A, e1, e2, e3⟩ := h.box
  have hz : SlotA (setMany A (i * 11) zsL) i bu.Slot.zero (.slice none 0 0) := by
    have key : ∀ r, r < 11 → (setMany A (i * 11) zsL)[i * 11 + r]? = zsL[r]? := fun r hr => setMany_in zsL A (i * 11) r (show r < 11 from hr) (show i * 11 + 11 ≤ A.size by omega)
    exact ⟨key 0 (by omega), fun k hk => by
      rw [Nat.add_assoc, key (1 + k) (by omega)]
      have hs : k = 0 ∨ k = 1 ∨ k = 2 ∨ k = 3 ∨ k = 4 ∨ k = 5 ∨ k = 6 ∨ k = 7 := by omega
      rcases hs with rfl | rfl | rfl | rfl | rfl | rfl | rfl | rfl <;> rfl, key 9 (by omega), key 10 (by omega)⟩
  have hfr : Fr (· = q) w (w.setCells q (i * 11) zsL) := fr_setCells q _ _ (Fr.refl _ w)
  refine ⟨fun j => if j = i then .slice none 0 0 else V j, ⟨⟨_, heap_setCells q _ _ _ _ _ e1, by rw [setMany_size]; exact e2, fun j hj => ?_⟩, fun j hj => ?_, fun j k hj hk hjk g hg hg2 => ?_⟩, hfr.wider (fun k _ x => .inl x), fun y hy => ?_⟩
  · by_cases e : j = i
    · subst e
      rw [bu.upd_same]
      simp only [if_pos]
      exact hz
    · rw [bu.upd_other _ _ e]
      simp only [if_neg e]
      have key : ∀ r, r < 11 → (setMany A (i * 11) zsL)[j * 11 + r]? = A[j * 11 + r]? := fun r hr => setMany_out zsL A (i * 11) _ (show j * 11 + r < i * 11 ∨ i * 11 + 11 ≤ j * 11 + r by omega)
      have s := e3 j hj
      exact ⟨(key 0 (by omega)).trans s.on, fun k hk => by rw [Nat.add_assoc, key (1 + k) (by omega), ← Nat.add_assoc]; exact s.ks k hk, (key 9 (by omega)).trans s.qu, (key 10 (by omega)).trans s.dr⟩
  · by_cases e : j = i
    · subst e
      rw [bu.upd_same]
      simp only [if_pos]
      exact ⟨rfl, .inl ⟨rfl, rfl⟩⟩
    · rw [bu.upd_other _ _ e]
      simp only [if_neg e]
      exact own_keep (h.row j hj) fun g cur _ hg e4 _ => hfr.block g hg (fun x => h.ne hj (by rw [e4, x]))
  · by_cases ej : j = i
    · simp [ej, Value.ownBlock] at hg
    · by_cases ek : k = i
      · simp [ek, Value.ownBlock] at hg2
      · simp only [if_neg ej] at hg
        simp only [if_neg ek] at hg2
        exact h.apart j k hj hk hjk g hg hg2
  · left
    rcases hy with rfl | ⟨j, hj, e⟩
    · exact .inl rfl
    · by_cases ej : j = i
      · simp [ej, Value.ownBlock] at e
      · simp only [if_neg ej] at e
        exact .inr ⟨j, hj, e⟩
set_option maxHeartbeats 1600000 in
theorem shutP_any (q : Nat) (S : Nat → bu.Slot) (V : Nat → Value) (p : Int) (w : World) (h : BuAt w q S V) : Calls Try.prog 22 #[.pointer (some ⟨q, 0, none⟩), .int .i64 p] w fun e w' => e = .returned (.int .i64 (bu.shutR S p).1) ∧ BuR q V w w' (bu.shutR S p).2 := by
  have HO := Lib.hid (opened_any q S V p w h)
  have HL : Hid (bu.shutR S p = match bu.openA S p with | none => (5, S) | some i => (0, bu.upd S i bu.Slot.zero)) := Lib.hid rfl
  have hlt := fun i (e : bu.openA S p = some i) => (bu.openA_lt e).1
  generalize bu.shutR S p = R at *
  obtain ⟨X, hX⟩ : ∃ X, bu.openA S p = X := ⟨_, rfl⟩
  rw [hX] at HO HL hlt
  clear hX
  cases X with
  | none =>
    have HR : Hid (R = (5, S)) := Lib.hid HL.out
    have HB := Lib.hid (BuR.same h)
    clear HL hlt h
    go_enter Try.func22, Try.ntmps22
    go_wp2_with fail
    refine HO.out.mono ?_
    rintro e w' ⟨rfl, hw⟩
    replace hw := hw.symm
    subst hw
    dsimp only [slP, Option.map_none]
    go_wp2_with fail
    go_ret
    rw [HR.out]
    exact ⟨rfl, HB.out⟩
  | some i =>
    have hi := hlt i rfl
    have HR : Hid (R = (0, bu.upd S i bu.Slot.zero)) := Lib.hid HL.out
    have HB : Hid (BuR q V w (shutW w q i) (bu.upd S i bu.Slot.zero)) := Lib.hid (by rw [shutW_eq]; exact shut_at h hi)
    obtain ⟨c0, c1, c9, c10⟩ := h.cells hi
    have k0 := c1 0 (by omega)
    have k1 := c1 1 (by omega)
    have k2 := c1 2 (by omega)
    have k3 := c1 3 (by omega)
    have k4 := c1 4 (by omega)
    have k5 := c1 5 (by omega)
    have k6 := c1 6 (by omega)
    have k7 := c1 7 (by omega)
    simp only [Nat.add_assoc, Nat.reduceAdd] at k0 k1 k2 k3 k4 k5 k6 k7
    obtain ⟨o, c, hv⟩ := own_slice (h.row i hi)
    rw [hv] at c9
    have hq := h.lt
    have f1 := h.thaw (i * 11 + 1)
    have f2 := h.thaw (i * 11 + 2)
    have f3 := h.thaw (i * 11 + 3)
    have f4 := h.thaw (i * 11 + 4)
    have f5 := h.thaw (i * 11 + 5)
    have f6 := h.thaw (i * 11 + 6)
    have f7 := h.thaw (i * 11 + 7)
    have f8 := h.thaw (i * 11 + 8)
    have f9 := h.thaw (i * 11 + 9)
    have f10 := h.thaw (i * 11 + 10)
    have f0 := h.thaw (i * 11)
    clear HL hlt h c1 hv
    go_enter Try.func22, Try.ntmps22
    go_wp2_with fail
    refine HO.out.mono ?_
    rintro e w' ⟨rfl, hw⟩
    replace hw := hw.symm
    subst hw
    dsimp only [slP, Option.map_some]
    go_wp2_with fail
    go_ret
    rw [HR.out]
    exact ⟨rfl, HB.out⟩
end Go.Proofs.Ytgegphciaejkiaa
