/- slices.DeleteFunc of a queue; a clock's Drop. -/
import Derived.Test.YtfelmnhhldgobaaTmDrop
namespace Go.Proofs.Ytfelmnhhldgobaa
open Go.RowKit
def setMany (cur : Array Value) : Nat → List Value → Array Value
  | _, [] => cur
  | o, v :: r => setMany (cur.setIfInBounds o v) (o + 1) r
theorem setMany_size : ∀ (vs : List Value) (cur : Array Value) (o : Nat), (setMany cur o vs).size = cur.size
  | [], _, _ => rfl
  | v :: r, cur, o => (setMany_size r _ (o + 1)).trans (by simp)
theorem setMany_out : ∀ (vs : List Value) (cur : Array Value) (o k : Nat), (k < o ∨ o + vs.length ≤ k) → (setMany cur o vs)[k]? = cur[k]?
  | [], _, _, _, _ => rfl
  | v :: r, cur, o, k, h => by
    have hk : k < o + 1 ∨ o + 1 + r.length ≤ k := by simp only [List.length_cons] at h; omega
    show (setMany (cur.setIfInBounds o v) (o + 1) r)[k]? = _
    rw [setMany_out r _ (o + 1) k hk, Array.getElem?_setIfInBounds, if_neg (by simp only [List.length_cons] at h; omega)]
theorem heap_setCells (g : Nat) (t : TypeId) : ∀ (vs : List Value) (o : Nat) (w : World) (cur : Array Value), w.heap[g]? = some (.cells cur t (0, 0)) → (w.setCells g o vs).heap[g]? = some (.cells (setMany cur o vs) t (0, 0))
  | [], _, _, _, h => h
  | v :: r, o, w, _, h => heap_setCells g t r (o + 1) _ _ (heap_setCell_same w g o _ _ v h)
theorem fr_setCells (g : Nat) : ∀ (vs : List Value) (o : Nat) {a w : World}, Fr (fun k => k = g) a w → Fr (fun k => k = g) a (w.setCells g o vs)
  | [], _, _, _, h => h
  | v :: r, o, _, _, h => fr_setCells g r (o + 1) (h.setCell ⟨g, o, none⟩ v (.inr rfl))
def zsT (k : Nat) : List Value := (Builtin.zeroCells (Value.agg #[.int .i64 0, .int .i64 0, .int .i64 0, .int .i64 0]).cells k).toList
theorem zsT_len (k : Nat) : (zsT k).length = k * 4 := by
  unfold zsT
  rw [Array.length_toList, size_zeroCells]
  rfl
theorem zsT_one (k : Nat) : ∀ v ∈ zsT k, v.oneCell' = true := by
  intro v hv
  unfold zsT Builtin.zeroCells at hv
  rw [Array.mem_toList_iff, Array.mem_map] at hv
  obtain ⟨i, -, rfl⟩ := hv
  have hi : i % 4 = 0 ∨ i % 4 = 1 ∨ i % 4 = 2 ∨ i % 4 = 3 := by omega
  show (#[Value.int .i64 0, .int .i64 0, .int .i64 0, .int .i64 0][i % 4]!).oneCell' = true
  rcases hi with e | e | e | e <;> rw [e] <;> rfl
set_option maxRecDepth 100000 in
/-- clear(s), s some timers -/
theorem run_clears (w : World) (ty : TypeId) (b o k c : Nat) (hk : k ≠ 0) (hc : ∀ j, j < k * 4 → (w.cell? ⟨b, o + j, none⟩).isSome = true) (hf : ∀ j, j < k * 4 → w.frozen? ⟨b, o + j, none⟩ = false) :
    (Builtin.clear_ #[63] ty #[.slice (some ⟨b, o, none⟩) k c]).run Try.prog w = .ok (.tuple #[]) (w.setCells b o (zsT k)) := by
  have hst := run_storeCells_cells (P := Try.prog) b o (zsT k) 0 w (fun j hj => by rw [zsT_len] at hj; simp [hc j hj]) (fun j hj => by rw [zsT_len] at hj; simp [hf j hj]) (zsT_one k)
  simp only [Nat.add_zero] at hst
  obtain ⟨m, rfl⟩ : ∃ m, k = m + 1 := ⟨k - 1, by omega⟩
  unfold zsT at hst ⊢
  simp [Builtin.clear_, run_underlying Try.underlying63, hst]
set_option maxRecDepth 100000 in
theorem run_ql (g n cap k : Nat) (hk : k < n) (hn : n ≤ cap) (wx : World) : (Instr.slice 63 (.slice (some ⟨g, 0, none⟩) n cap) (some (.int .i64 (k : Int))) none none).run Try.prog wx = .ok (.slice (some ⟨g, k * 4, none⟩) (n - k) (cap - k)) wx := by
  rw [run_slice_l wx 63 (some ⟨g, 0, none⟩) n cap Try.underlying63 .i64 k (by omega) (by omega)]
  have hz : (sizeOf (Try.prog.elem 63)).run Try.prog wx = .ok 4 wx := by kernel_rfl
  rw [hz]
  have e : (⟨g, 0, none⟩ : Addr).add (k * 4) = ⟨g, k * 4, none⟩ := addr_b0 g _
  simp [Result.andThen, sliced, e]
  intro e2
  omega
/-- the tail of a queue cleared -/
theorem QIn.clears {w : World} {g n cap : Nat} {l : List tm.T} (h : QIn w g n cap l) (i : Nat) (hi : i < n) : QIn (w.setCells g (i * 4) (zsT (n - i))) g i cap (l.take i) ∧ (∀ ty, (Builtin.clear_ #[63] ty #[.slice (some ⟨g, i * 4, none⟩) (n - i) (cap - i)]).run Try.prog w = .ok (.tuple #[]) (w.setCells g (i * 4) (zsT (n - i)))) := by
  obtain ⟨cur, hg, hs, hc⟩ := h.at_
  have hnc := h.nc
  refine ⟨⟨by rw [List.length_take, h.len]; omega, by omega, h.cm, _, heap_setCells g _ _ _ _ _ hg, by rw [setMany_size, hs], fun j t k hj hk => ?_⟩, fun ty => run_clears w ty g (i * 4) (n - i) (cap - i) (by omega) (fun j hj => by rw [cell_of_heap hg, Array.getElem?_eq_getElem (by omega)]; rfl) (fun j _ => h.thaw _)⟩
  rw [List.getElem?_take] at hj
  split at hj
  · rename_i hji
    rw [setMany_out _ _ _ _ (.inl (by omega))]
    exact hc j t k hj hk
  · cases hj
namespace tm
def kp (x : Int) (l : List T) : List T := l.filter fun t => !hasOwner x t
theorem find_spec (p : T → Bool) : ∀ (l : List T) (i : Nat), (find p l i = -1 ∧ ∀ t, t ∈ l → p t = false) ∨ ∃ k : Nat, find p l i = ((i + k : Nat) : Int) ∧ k < l.length ∧ (∀ t, t ∈ l.take k → p t = false) ∧ p (ix l k) = true
  | [], i => .inl ⟨rfl, fun t h => by cases h⟩
  | t :: l, i => by
    unfold find
    split
    · rename_i h
      exact .inr ⟨0, rfl, by simp, fun t h => by simp at h, h⟩
    · rename_i h
      have h' : p t = false := Bool.eq_false_iff.2 h
      rcases find_spec p l (i + 1) with ⟨a, b⟩ | ⟨k, a, b, c, d⟩
      · refine .inl ⟨a, fun u hu => ?_⟩
        rcases List.mem_cons.1 hu with rfl | hu
        · exact h'
        · exact b u hu
      · refine .inr ⟨k + 1, by rw [a]; congr 1; omega, by simpa using b, fun u hu => ?_, d⟩
        rw [List.take_succ_cons] at hu
        rcases List.mem_cons.1 hu with rfl | hu
        · exact h'
        · exact c u hu
theorem kp_all {x : Int} {l : List T} (h : ∀ t, t ∈ l → hasOwner x t = false) : kp x l = l := by
  unfold kp
  rw [List.filter_eq_self]
  intro t ht
  rw [h t ht]; rfl
theorem kp_snoc {x : Int} {l : List T} {j : Nat} (h : j < l.length) : kp x (l.take (j + 1)) = if hasOwner x (ix l j) = true then kp x (l.take j) else kp x (l.take j) ++ [ix l j] := by
  unfold kp
  rw [List.take_add_one, ix_at h, List.filter_append]
  simp only [Option.toList_some, List.filter_cons, List.filter_nil]
  cases hasOwner x (ix l j) <;> simp
end tm
set_option maxRecDepth 100000 in
set_option maxHeartbeats 800000 in
theorem del_any (g n cap : Nat) (l : List tm.T) (b : Nat) (x : Int) (w : World) (hq : QIn w g n cap l) (hb : w.cell? ⟨b, 0, none⟩ = some (.int .i64 x)) (hl : b < w.heap.size) (hbg : b ≠ g) (hn : n ≤ 64) : Calls Try.prog 30 #[.slice (some ⟨g, 0, none⟩) n cap, .func (.func 31) #[] #[.pointer (some ⟨b, 0, none⟩)]] w fun e w' => e = .returned (.slice (some ⟨g, 0, none⟩) (tm.kp x l).length cap) ∧ QIn w' g (tm.kp x l).length cap (tm.kp x l) ∧ Fr (fun k => k = g) w w' := by
  have hcm := hq.cm
  have hnc := hq.nc
  have hlen := hq.len
  obtain ⟨K, hK⟩ : ∃ K, tm.kp x l = K := ⟨_, rfl⟩
  rw [hK]
  have HK := Lib.hid hK
  clear hK
  have HQ := Lib.hid (And.intro hq (And.intro hb hl))
  rcases tm.find_spec (tm.hasOwner x) l 0 with ⟨e1, e2⟩ | ⟨i0, e1, e2, e3, e4⟩
  · have HI := Lib.hid (index_drop g n cap l b x w hq hb hl _ e1)
    have HE : Hid (K = l) := Lib.hid (HK.out.symm.trans (tm.kp_all e2))
    clear hq hb hl e2 e1
    go_enter Try.func30, Try.ntmps30
    go_wp2_with fail
    with_reducible refine HI.out.mono ?_
    rintro e w2 ⟨rfl, b2⟩
    have HZ := Lib.hid (And.intro (HQ.out.1.keep (b2.block _ HQ.out.1.lt)) (Fr.of_below b2 (fun k => k = g)))
    clear b2 HI
    go_wp2_with fail
    go_ret
    obtain rfl := HE.out
    rw [hlen]
    exact ⟨rfl, HZ.out.1, HZ.out.2⟩
  · rw [Nat.zero_add] at e1
    have HI := Lib.hid (index_drop g n cap l b x w hq hb hl _ e1)
    have hi0 : ((i0 : Int) == -1) = false := by rw [beq_eq_false_iff_ne]; omega
    have H0 : Hid (l.take i0 = tm.kp x (l.take (i0 + 1))) := Lib.hid (by rw [tm.kp_snoc e2, if_pos e4, tm.kp_all e3])
    clear hq hb hl e1 e3 e4
    go_enter Try.func30, Try.ntmps30
    go_wp2_with fail
    with_reducible refine HI.out.mono ?_
    rintro e w2 ⟨rfl, b2⟩
    have HZ := Lib.hid (And.intro (HQ.out.1.keep (b2.block _ HQ.out.1.lt)) (Fr.of_below b2 (fun k => k = g)))
    clear b2 HI
    go_wp2_with fail
    go_loopg [5, 6] (n - (i0 + 1)) (fun gg s5 s6 wr => ∃ (i j : Nat) (L : List tm.T), s5 = .int .i64 i ∧ s6 = .int .i64 j ∧ i < j ∧ j ≤ n ∧ n - j ≤ gg ∧ Hid (QIn wr g n cap L ∧ Fr (fun k => k = g) w wr ∧ L.take i = tm.kp x (l.take j) ∧ L.drop j = l.drop j))
    case atStart => exact ⟨i0, i0 + 1, l, rfl, by go_num, by omega, by omega, Nat.le_refl _, Lib.hid ⟨HZ.out.1, HZ.out.2, H0.out, rfl⟩⟩
    case round =>
      clear HZ H0
      obtain ⟨i, j, L, rfl, rfl, hij, hjn, hgg, HX⟩ := hrel
      have hLl := HX.out.1.len
      by_cases hlt : j < n
      · have hji : (j : Int) < (n : Int) := by omega
        obtain ⟨t, ht⟩ : ∃ t, tm.ix l j = t := ⟨_, rfl⟩
        have hLj : L[j]? = some t := by
          have h1 : (L.drop j)[0]? = (l.drop j)[0]? := by rw [HX.out.2.2.2]
          rw [List.getElem?_drop, List.getElem?_drop, Nat.add_zero] at h1
          rw [h1, tm.ix_at (by omega), ht]
        obtain ⟨d0, d1, d2, d3⟩ := HX.out.1.cell hLj
        have hgl := HX.out.1.lt
        have HSN := Lib.hid (tm.kp_snoc (x := x) (l := l) (j := j) (by omega))
        rw [ht] at HSN
        have b1 := below_one wr (tO t)
        have a1 := heap_alloc_new wr (tO t)
        obtain ⟨W, hW⟩ : ∃ W, wr.alloc (tO t) = W := ⟨_, rfl⟩
        rw [hW] at b1 a1
        have y0 : W.cell? ⟨wr.heap.size, 0, none⟩ = some (.int .i64 t.id) := (cell_of_heap a1).trans rfl
        have y1 : W.cell? ⟨wr.heap.size, 1, none⟩ = some (.int .i64 t.owner) := (cell_of_heap a1).trans rfl
        have y2 : W.cell? ⟨wr.heap.size, 2, none⟩ = some (.int .i64 t.due) := (cell_of_heap a1).trans rfl
        have y3 : W.cell? ⟨wr.heap.size, 3, none⟩ = some (.int .i64 t.every) := (cell_of_heap a1).trans rfl
        have lx := heap_lt a1
        have HCl := Lib.hid (cl_drop t b x W ((cell_of_eq (b1.block b (Nat.lt_of_lt_of_le HQ.out.2.2 HX.out.2.1.size)) 0).trans ((cell_of_eq (HX.out.2.1.block b HQ.out.2.2 hbg) 0).trans HQ.out.2.1)) (Nat.lt_of_lt_of_le HQ.out.2.2 (Nat.le_trans HX.out.2.1.size b1.size)))
        have HY : Hid (QIn W g n cap L ∧ Fr (fun k => k = g) w W ∧ L.take i = tm.kp x (l.take j) ∧ L.drop j = l.drop j ∧ W.heap[wr.heap.size]? = some (tO t)) := Lib.hid ⟨HX.out.1.keep (b1.block _ hgl), HX.out.2.1.below b1, HX.out.2.2.1, HX.out.2.2.2, a1⟩
        have HLL := Lib.hid hLl
        clear ht hLj a1 b1 HX hLl
        go_wp2_with fail
        with_reducible refine HCl.out.mono ?_
        rintro e w3 ⟨rfl, b3⟩
        have q3 := HY.out.1.keep (b3.block _ HY.out.1.lt)
        have f3 := HY.out.2.1.below b3
        have a3 := (b3.block _ (heap_lt HY.out.2.2.2.2)).trans HY.out.2.2.2.2
        clear y0 y1 y2 y3 lx d0 d1 d2 d3
        cases ho : tm.hasOwner x t with
        | true =>
          have H3 : Hid (QIn w3 g n cap L ∧ Fr (fun k => k = g) w w3 ∧ L.take i = tm.kp x (l.take (j + 1)) ∧ L.drop (j + 1) = l.drop (j + 1)) := Lib.hid ⟨q3, f3, by rw [HSN.out, if_pos ho]; exact HY.out.2.2.1, by have := congrArg (List.drop 1) HY.out.2.2.2.1; rwa [List.drop_drop, List.drop_drop] at this⟩
          clear q3 f3 a3 b3 HY HCl
          go_wp2_with fail
          go_roundg (n - (j + 1))
          case measure => omega
          case rel => exact ⟨i, j + 1, L, rfl, by go_num, by omega, by omega, Nat.le_refl _, H3⟩
        | false =>
          have y0 : w3.cell? ⟨wr.heap.size, 0, none⟩ = some (.int .i64 t.id) := (cell_of_heap a3).trans rfl
          have y1 : w3.cell? ⟨wr.heap.size, 1, none⟩ = some (.int .i64 t.owner) := (cell_of_heap a3).trans rfl
          have y2 : w3.cell? ⟨wr.heap.size, 2, none⟩ = some (.int .i64 t.due) := (cell_of_heap a3).trans rfl
          have y3 : w3.cell? ⟨wr.heap.size, 3, none⟩ = some (.int .i64 t.every) := (cell_of_heap a3).trans rfl
          have lx := heap_lt a3
          have hii : (i : Int) < (n : Int) := by omega
          have hiL : i < L.length := by rw [HLL.out]; omega
          obtain ⟨u, hu⟩ : ∃ u, L[i]? = some u := ⟨_, List.getElem?_eq_getElem hiL⟩
          obtain ⟨d0, d1, d2, d3⟩ := q3.cell hu
          have t0 := q3.thaw (i * 4)
          have t1 := q3.thaw (i * 4 + 1)
          have t2 := q3.thaw (i * 4 + 2)
          have t3 := q3.thaw (i * 4 + 3)
          have lg := q3.lt
          have H3 : Hid (QIn (setT w3 g i t) g n cap (L.set i t) ∧ Fr (fun k => k = g) w (setT w3 g i t) ∧ (L.set i t).take (i + 1) = tm.kp x (l.take (j + 1)) ∧ (L.set i t).drop (j + 1) = l.drop (j + 1)) := Lib.hid ⟨q3.set i (by omega) t, (((f3.setCell _ _ (.inr rfl)).setCell _ _ (.inr rfl)).setCell _ _ (.inr rfl)).setCell _ _ (.inr rfl), by
            rw [HSN.out, if_neg (by rw [ho]; simp), ← HY.out.2.2.1, List.take_add_one, List.getElem?_set_self hiL, List.take_set_of_le (Nat.le_refl _)]
            rfl, by
            rw [List.drop_set_of_lt (by omega)]
            have := congrArg (List.drop 1) HY.out.2.2.2.1
            rwa [List.drop_drop, List.drop_drop] at this⟩
          clear q3 f3 a3 b3 HY HCl hu
          go_wp2_with fail
          go_roundg (n - (j + 1))
          case measure => omega
          case rel => exact ⟨i + 1, j + 1, _, by go_num, by go_num, by omega, by omega, Nat.le_refl _, H3⟩
      · obtain rfl : j = n := by omega
        have HE : Hid (L.take i = K) := Lib.hid (by
          have := HX.out.2.2.1
          rw [show l.take j = l from List.take_of_length_le (by omega)] at this
          exact this.trans HK.out)
        have hKl : Hid (K.length = i) := Lib.hid (by rw [← HE.out, List.length_take]; omega)
        obtain ⟨c1, c2⟩ := HX.out.1.clears i hij
        have HZ : Hid (QIn (wr.setCells g (i * 4) (zsT (j - i))) g i cap (L.take i) ∧ Fr (fun k => k = g) w (wr.setCells g (i * 4) (zsT (j - i)))) := Lib.hid ⟨c1, fr_setCells g _ _ HX.out.2.1⟩
        have hsl := fun wx => run_ql g j cap i hij hnc wx
        have hsh := fun wx => run_qh ⟨g, 0, none⟩ j cap i (by omega) wx
        clear c1 HX hLl
        go_wp2_with fail
        go_ret
        rw [hKl.out]
        exact ⟨rfl, by rw [← HE.out]; exact HZ.out.1, HZ.out.2⟩
end Go.Proofs.Ytfelmnhhldgobaa
