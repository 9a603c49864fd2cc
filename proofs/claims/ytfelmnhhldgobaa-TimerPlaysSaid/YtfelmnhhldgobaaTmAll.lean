/- A clock's All: what slices.SortFunc does with what is due. -/
import Derived.Test.YtfelmnhhldgobaaTmPass
import Derived.Test.YtfelmnhhldgobaaShelf
import Derived.Shelf.SlSortCmp.NoneTotal
namespace Go.Proofs.Ytfelmnhhldgobaa
open Go.RowKit Go.Sort Go.Shelf Go.Lib
def DIn (w : World) (o : Option Addr) (L : List tm.T) : Prop := L.length = 0 ∨ ∃ g, o = some ⟨g, 0, none⟩ ∧ g < w.heap.size ∧ ∀ i t, L[i]? = some t → (w.cell? ⟨g, i * 3, none⟩ = some (.int .i64 t.id) ∧ w.cell? ⟨g, i * 3 + 1, none⟩ = some (.int .i64 t.owner) ∧ w.cell? ⟨g, i * 3 + 2, none⟩ = some (.int .i64 t.due))
theorem holds_of_due {w : World} {B g n cap : Nat} {L : List tm.T} (h : DRow w B (.slice (some ⟨g, 0, none⟩) n cap) L) : HoldsK dC 3 w g 0 L.toArray := by
  intro j hj
  rw [size_flatK] at hj
  have hj' : j < L.length * 3 := by simpa using hj
  have hlt : j / 3 < L.length := by omega
  rw [get_flatK _ _ _ _ hj]
  have e1 : L.toArray[j / 3]! = L[j / 3] := by simp [hlt]
  rw [e1, Nat.zero_add]
  obtain ⟨-, g', e, -, k0, k1, k2⟩ := DRow.cell h (j / 3) hlt
  obtain rfl : g = g' := by injection e with e; injection e
  rw [tm.ix_get hlt] at k0 k1 k2
  have hfz : ∀ k, w.frozen? ⟨g, k, none⟩ = false := fun k => by
    rcases h.2 with ⟨h1, h2⟩ | ⟨g', cap', cur, h1, hB, hg, -⟩
    · omega
    · injection h1 with a1
      injection a1 with a1
      injection a1 with a1
      subst a1
      exact thaw hg
  generalize L[j / 3] = q at *
  have : j % 3 = 0 ∨ j % 3 = 1 ∨ j % 3 = 2 := by omega
  rcases this with hm | hm | hm
  · rw [hm, show j = j / 3 * 3 by omega]; exact ⟨k0, hfz _⟩
  · rw [hm, show j = j / 3 * 3 + 1 by omega]; exact ⟨k1, hfz _⟩
  · rw [hm, show j = j / 3 * 3 + 2 by omega]; exact ⟨k2, hfz _⟩
theorem due_of_holds {w : World} {g : Nat} {d : Array tm.T} (h : HoldsK dC 3 w g 0 d) (hg : g < w.heap.size) : DIn w (some ⟨g, 0, none⟩) d.toList := by
  refine .inr ⟨g, rfl, hg, fun t r ht => ?_⟩
  rw [Array.getElem?_toList] at ht
  obtain ⟨hlt, hr⟩ := Array.getElem?_eq_some_iff.1 ht
  have e : d[t]! = r := by rw [getElem!_pos d t hlt]; exact hr
  have hc := fun c (hc : c < 3) => h.cell (i := t) (c := c) hlt hc
  rw [e] at hc
  have h0 := hc 0 (by decide); have h1 := hc 1 (by decide); have h2 := hc 2 (by decide)
  simp only [Nat.zero_add, Nat.add_zero] at h0 h1 h2
  exact ⟨h0.1, h1.1, h2.1⟩
theorem ltD (x y : tm.T) : ltOf tm.ord x y = tm.lt x y := rfl
theorem swoD : SWO (ltOf tm.ord) where
  irrefl x := by
    rw [ltD]
    cases h : tm.lt x x with
    | false => rfl
    | true => have := (tm.lt_iff _ _).1 h; omega
  trans x y z h1 h2 := by
    rw [ltD] at *
    rw [tm.lt_iff] at *
    omega
  ntrans x y z h1 h2 := by
    rw [ltD] at *
    cases h : tm.lt x z with
    | false => rfl
    | true =>
      have a := (tm.lt_iff _ _).1 h
      have b : ¬ (x.due < y.due ∨ x.due = y.due ∧ x.id < y.id) := fun e => by rw [(tm.lt_iff _ _).2 e] at h1; cases h1
      have c : ¬ (y.due < z.due ∨ y.due = z.due ∧ y.id < z.id) := fun e => by rw [(tm.lt_iff _ _).2 e] at h2; cases h2
      omega
theorem gb_sortD {w : World} {g n : Nat} {os : Array Obj} (d : Array tm.T) : w.grownBy (sortWorldK dC 3 w g 0 n d os) (some g) := by
  unfold sortWorldK putRowK
  refine ⟨rfl, rfl, rfl, by simp, fun k hk hne => ?_⟩
  rw [heap_grow_old _ _ (by simpa using hk)]
  have : g ≠ k := fun e => hne (by rw [e])
  simp [putRow, mapBlock, Sort.ahead, Array.getElem?_modify, this]
theorem order_grow (x y : tm.T) (W : World) : Calls Try.prog 36 #[.agg (dC x).toArray, .agg (dC y).toArray] W fun e w' => e = .returned (.int .i64 (tm.ord x y)) ∧ ∃ q os', w' = grow (W.drewN q) os' := by
  refine Calls.mono (order_any x y W) ?_
  rintro e w' ⟨a, rfl⟩
  exact ⟨a, 0, _, by rw [alloc_eq_grow, alloc_eq_grow, grow_grow]; rfl⟩
theorem sortD_any (g cap : Nat) (L : List tm.T) (B : Nat) (w : World) (h : DRow w B (.slice (some ⟨g, 0, none⟩) L.length cap) L) (hg : g < w.heap.size) (hlen : L.length ≤ 65536) :
    Calls Try.prog 35 #[.slice (some ⟨g, 0, none⟩) L.length cap, .func (.func 36) #[] #[]] w fun e w' =>
      e = .returned (.tuple #[]) ∧ ∃ L' : List tm.T, L'.Perm L ∧ L'.Pairwise (fun a b => tm.lt b a = false) ∧ DIn w' (some ⟨g, 0, none⟩) L' ∧ w.grownBy w' (some g) := by
  have eg : ∀ args w, (callFunc 36 args).run Try.prog w = .ok (.enter 36 args) w := enters_of Try.func36 (by kernel_rfl) rfl
  have hH := holds_of_due h
  have hcon := AnyQ.slices_SortFunc Try.laysSlF06_f35 3 Try.isAgg57 Try.sizeOf57 dC (fun _ => rfl) (fun r v hv => dC_one r v hv) tm.ord swoD 36 #[] g 0 cap L.toArray w eg (fun _ _ _ _ x y => order_grow x y _) hH hg (by simp; omega)
  change Calls Try.prog 35 _ _ _ at hcon
  simp only [List.size_toArray] at hcon
  refine hcon.mono ?_
  rintro e w' ⟨rfl, d', n, os, ⟨hs, _, hp⟩, hsorted, rfl⟩
  have hs' : d'.size = L.length := by simpa using hs
  refine ⟨rfl, d'.toList, ?_, ?_, ?_, gb_sortD d'⟩
  · have e1 : d'.extract 0 L.length = d' := by rw [← hs']; simp
    have e2 : L.toArray.extract 0 L.length = L.toArray := by have : L.length = L.toArray.size := by simp
                                                             rw [this]; simp only [Array.extract_size]
    rw [e1, e2] at hp
    simpa using hp
  · rw [List.pairwise_iff_getElem]
    intro i j hi hj hij
    have hi' : i < d'.size := by simpa using hi
    have hj' : j < d'.size := by simpa using hj
    have := hsorted i j (Nat.zero_le _) hij (by omega)
    rw [ltD, getElem!_pos d' i hi', getElem!_pos d' j hj'] at this
    simp only [Array.getElem_toList]
    simpa using this
  · exact due_of_holds (holdsK_grow dC 3 _ os g 0 d' (by simpa [putRowK] using hg) (holdsK_putRowK dC 3 _ g 0 L.toArray d' (holdsK_ahead dC 3 w n g 0 _ hH) (by simpa using hs'))) (Nat.lt_of_lt_of_le hg (gb_sortD (w := w) (g := g) (n := n) (os := os) d').size)
theorem sortD_none (w : World) : Calls Try.prog 35 #[.slice none 0 0, .func (.func 36) #[] #[]] w fun e w' => e = .returned (.tuple #[]) ∧ w' = w := by
  have hcon := AnyF.slices_SortFunc_none Try.laysSlF06_f35 none 0 (.func (.func 36) #[] #[]) w
  change Calls Try.prog 35 _ _ _ at hcon
  exact hcon
def AllAns (w w' : World) (e : Ending) (l : List tm.T) : Prop := ∃ (o : Option Addr) (cap : Nat) (L : List tm.T), e = .returned (.slice o L.length cap) ∧ L.Perm l ∧ L.Pairwise (fun a b => tm.lt b a = false) ∧ DIn w' o L ∧ Below w.heap.size w w'
set_option maxRecDepth 100000 in
set_option maxHeartbeats 3200000 in
theorem all_any (c : Nat) (V : Value) (s : tm.St) (w : World) (h : CS w c V s) (hlen : s.l.length ≤ 64) : Calls Try.prog 20 #[.pointer (some ⟨c, 0, none⟩)] w fun e w' => AllAns w w' e s.l := by
  obtain ⟨-, -, c2⟩ := h.cell
  have hlt := h.lt
  obtain ⟨o, cap, hV⟩ := h.slice
  subst hV
  by_cases h0 : s.l.length = 0
  · rw [h0] at c2
    have hs0 : s.l = [] := List.eq_nil_of_length_eq_zero h0
    rw [hs0]
    clear h
    have HN := Lib.hid (sortD_none w)
    go_enter Try.func20, Try.ntmps20
    go_wp2_with fail
    go_loopg [3, 11] 0 (fun gg s3 s11 wr => s3 = .slice none 0 0 ∧ s11 = .int .i64 0 ∧ wr = w)
    case atStart => exact ⟨rfl, rfl, rfl⟩
    case round =>
      obtain ⟨rfl, rfl, rfl⟩ := hrel
      go_wp2_with fail
      refine HN.out.mono ?_
      rintro e w' ⟨rfl, rfl⟩
      go_wp2_with fail
      go_ret
      exact ⟨none, 0, [], rfl, List.Perm.refl _, List.Pairwise.nil, .inl rfl, Below.refl _ _⟩
  · obtain ⟨g, cap', hv, hcg, hq⟩ := h.hq (by omega)
    injection hv with hv _ hv3
    subst hv hv3
    generalize s.l = l at *
    obtain ⟨n, hn⟩ : ∃ n, l.length = n := ⟨_, rfl⟩
    rw [hn] at hq c2 hlen h0
    have HH := Lib.hid hq
    clear h hq hcg
    go_enter Try.func20, Try.ntmps20
    go_upto_region 3 with fail
    go_wp2_with fail
    go_loopg [3, 11] n (fun gg s3 s11 wr => ∃ (i : Nat) (o3 : Option Addr) (cap3 : Nat), s3 = .slice o3 i cap3 ∧ s11 = .int .i64 i ∧ i ≤ n ∧ n - i ≤ gg ∧ Hid (DRow wr w.heap.size (.slice o3 i cap3) (l.take i) ∧ Below w.heap.size w wr))
    case atStart => exact ⟨0, none, 0, rfl, rfl, Nat.zero_le _, Nat.le_refl _, Lib.hid ⟨⟨rfl, .inl ⟨rfl, rfl⟩⟩, Below.refl _ _⟩⟩
    case round =>
      clear c2 hlt
      obtain ⟨i, o3, cap3, rfl, rfl, hi, hgg, HT⟩ := hrel
      by_cases hin : i < n
      · have hin' : (i : Int) < (n : Int) := by omega
        have hq := HH.out.below HT.out.2
        obtain ⟨d0, d1, d2, d3⟩ := hq.q.cell (tm.ix_at (l := l) (i := i) (by omega))
        have hgl := hq.q.lt
        have htk : l.take (i + 1) = l.take i ++ [tm.ix l i] := by rw [List.take_add_one, tm.ix_at (by omega)]; rfl
        generalize tm.ix l i = t at *
        have b1 := below_one wr (tO t)
        have a1 := heap_alloc_new wr (tO t)
        have b2 := below_one (wr.alloc (tO t)) (dO t)
        have x0 : (wr.alloc (tO t)).cell? ⟨wr.heap.size, 0, none⟩ = some (.int .i64 t.id) := (cell_of_heap a1).trans rfl
        have x1 : (wr.alloc (tO t)).cell? ⟨wr.heap.size, 1, none⟩ = some (.int .i64 t.owner) := (cell_of_heap a1).trans rfl
        have x2 : (wr.alloc (tO t)).cell? ⟨wr.heap.size, 2, none⟩ = some (.int .i64 t.due) := (cell_of_heap a1).trans rfl
        have HO := Lib.hid (row_below (row_below HT.out.1 b1) b2)
        have hli : (l.take i).length = i := by rw [List.length_take]; omega
        rw [hli] at HO
        have HNW := Lib.hid (due_new (wr.alloc (tO t)) t)
        have hst : Hid (dsC (l.take i) ++ dC t = dsC (l.take (i + 1))) := Lib.hid (by rw [htk, dsC_snoc])
        have hwr := HT.out.2.size
        have hBB : Hid (w.heap.size ≤ ((wr.alloc (tO t)).alloc (dO t)).heap.size) := Lib.hid (by simp; omega)
        have HBE := Lib.hid (b1.trans (b2.mono b1.size))
        have lx := heap_lt a1
        clear hq a1 b1 b2 htk hli
        go_upto_region 5 with fail
        obtain ⟨W, hW⟩ : ∃ W, wr.alloc (tO t) = W := ⟨_, rfl⟩
        change Code.wp _ _ _ _ (wr.alloc (tO t))
        rw [hW] at HO HNW hBB HBE x0 x1 x2 lx ⊢
        clear hW d0 d1 d2 d3 hgl
        go_wp2_with (at_builtin; go_loud (refine wpList_rowsAt 39 57 3 24 Try.underlying39 infoD rfl (by decide) rfl _ _ rfl w.heap.size (.slice o3 i cap3) i (dsC (l.take i)) rfl HO.out hBB.out ⟨W.heap.size, 0, none⟩ 1 1 (fun _ => True) (dC t) rfl HNW.out (by omega) (dC_one t) (by omega) (by omega) (i + 1) rfl (dsC (l.take (i + 1))) hst.out ?_))
        intro V' w5 q1 q2 q3
        have H5 : Hid (DRow w5 w.heap.size V' (l.take (i + 1)) ∧ Below w.heap.size w w5) := Lib.hid ⟨by show w5.ownsRow w.heap.size _ 3 V' (l.take (i + 1)).length _; rw [List.length_take, Nat.min_eq_left (by omega)]; exact q1, (HT.out.2.trans (HBE.out.mono HT.out.2.size)).trans ((Below.refl w.heap.size _).grown q2 hBB.out (fun k hk => (HO.out.lt k hk).1))⟩
        obtain ⟨ao', ac', rfl⟩ := own_slice q1
        clear q1 q2 q3
        go_wp2_with fail
        go_roundg (n - (i + 1))
        case measure => omega
        case rel => exact ⟨i + 1, ao', ac', rfl, (by first | rfl | (simp; done) | (simp; omega)), by omega, Nat.le_refl _, H5⟩
      · obtain rfl : i = n := by omega
        have hti : l.take i = l := by rw [← hn]; exact List.take_length
        have hr := HT.out.1
        rw [hti] at hr
        obtain ⟨-, g3, rfl, hg3, -⟩ := DRow.cell hr 0 (by omega)
        rw [← hn] at hr
        have HS := Lib.hid (sortD_any g3 cap3 l w.heap.size wr hr hg3 (by omega))
        rw [hn] at HS
        have hg3' := (hr.lt g3 rfl).1
        clear hr
        go_wp2_with fail
        refine HS.out.mono ?_
        rintro e w5 ⟨rfl, L', hp, hs, hd, hgb⟩
        have HZ : Hid (AllAns w w5 (.returned (.slice (some ⟨g3, 0, none⟩) i cap3)) l) := Lib.hid ⟨_, _, L', by rw [hp.length_eq, hn], hp, hs, hd, HT.out.2.trans ((Below.refl w.heap.size _).grown hgb HT.out.2.size (fun k hk => by obtain rfl := Option.some.inj hk; exact hg3'))⟩
        clear hp hs hd hgb
        go_wp2_with fail
        go_ret
        exact HZ.out
end Go.Proofs.Ytfelmnhhldgobaa
