/- A clock's tell. -/
import Derived.Test.YtfelmnhhldgobaaTmSet
namespace Go.Proofs.Ytfelmnhhldgobaa
open Go.RowKit
abbrev setD (X : World) (b : Nat) (t : tm.T) : World := ((X.setCell ⟨b, 0, none⟩ (.int .i64 t.id)).setCell ⟨b, 1, none⟩ (.int .i64 t.owner)).setCell ⟨b, 2, none⟩ (.int .i64 t.due)
theorem setD_at {X : World} {b : Nat} {x0 x1 x2 : Value} (h : X.heap[b]? = some (.cells #[x0, x1, x2] 57 (0, 0))) (t : tm.T) : (setD X b t).heap[b]? = some (dO t) :=
  heap_setCell_same _ b 2 _ _ _ (heap_setCell_same _ b 1 _ _ _ (heap_setCell_same X b 0 _ _ _ h))
theorem setD_far (X : World) (b : Nat) (t : tm.T) (k : Nat) (hk : k ≠ b) : (setD X b t).heap[k]? = X.heap[k]? :=
  (Below.heap_setCell _ _ _ k hk).trans ((Below.heap_setCell _ _ _ k hk).trans (Below.heap_setCell _ _ _ k hk))
theorem tell_end {w W : World} {c b0 : Nat} {V V1 : Value} {now last : Int} {l : List tm.T} (hb : w.heap.size ≤ b0) (h1 : CK W c now last V1 l) (f : Fr (OwnC c V) w W) (o : ∀ y, OwnC c V1 y → OwnC c V y ∨ w.heap.size ≤ y) (hn : ¬ OwnC c V1 b0) (t : tm.T) : CKR c V w (setD W b0 t) now last l :=
  ⟨V1, h1.keep fun y hy => setD_far W b0 t y fun e => hn (e ▸ hy), ((f.setCell _ _ (.inl hb)).setCell _ _ (.inl hb)).setCell _ _ (.inl hb), o⟩
set_option maxRecDepth 100000 in
set_option maxHeartbeats 3200000 in
theorem tell_any (c : Nat) (V : Value) (s : tm.St) (w : World) (h : CS w c V s) (hg : tm.Good s) (hl : 0 < s.l.length) (R : tm.T × tm.St) (hR : tm.tellR s = R) : Calls Try.prog 34 #[.pointer (some ⟨c, 0, none⟩)] w fun x w' => x = .returned (.agg #[.int .i64 R.1.id, .int .i64 R.1.owner, .int .i64 R.1.due]) ∧ CSR c V w w' R.2 := by
  have hm := hg.ts _ (tm.tell_mem hl)
  have hlen := hg.len
  obtain ⟨k, hk⟩ : ∃ k, s.l.length = k + 1 := ⟨s.l.length - 1, by omega⟩
  have e1 : tm.tellR s = (tm.ix (tm.popL s.l) k, ⟨s.now, s.last, if 0 < (tm.ix (tm.popL s.l) k).every ∧ tm.isT ((tm.ix (tm.popL s.l) k).due + (tm.ix (tm.popL s.l) k).every) = true then tm.push ((tm.popL s.l).take k) ⟨(tm.ix (tm.popL s.l) k).id, (tm.ix (tm.popL s.l) k).owner, (tm.ix (tm.popL s.l) k).due + (tm.ix (tm.popL s.l) k).every, (tm.ix (tm.popL s.l) k).every⟩ else (tm.popL s.l).take k⟩) := by
    unfold tm.tellR
    rw [hk]
    rfl
  have hrl : ((tm.popL s.l).take k).length ≤ 64 := by rw [List.length_take, tm.popL_len]; omega
  have hP := fun W (hW : CK W c s.now s.last V s.l) => hpop_any c k s.now s.last V s.l W hW hk (by omega)
  have hm' : tm.isT (tm.ix (tm.popL s.l) k).due = true ∧ tm.isT (tm.ix (tm.popL s.l) k).every = true := by rw [e1] at hm; exact hm
  have hR' := e1.symm.trans hR
  clear hR e1 hm hg
  generalize tm.ix (tm.popL s.l) k = t at *
  generalize (tm.popL s.l).take k = rest at *
  have hd := (tm.isT_iff _).1 hm'.1
  have he := (tm.isT_iff _).1 hm'.2
  clear hm'
  subst hR'
  have a0 := heap_alloc_new w (dO tm.T.zero)
  have b0 := below_one w (dO tm.T.zero)
  have hs0 : (w.alloc (dO tm.T.zero)).heap.size = w.heap.size + 1 := by simp
  have H0 := Lib.hid (And.intro (h.below b0) (And.intro a0 (And.intro b0 (And.intro hs0 (fun y (hy : OwnC c V y) => (h.own_lt hy).2)))))
  have HP := Lib.hid (hP _ (h.below b0))
  have hta := assert_t t
  have hlt := h.lt
  clear h a0 b0 hs0 hP hl hk
  go_enter Try.func34, Try.ntmps34
  go_upto_region 1 with fail
  obtain ⟨W, hW⟩ : ∃ W, w.alloc (dO tm.T.zero) = W := ⟨_, rfl⟩
  change Code.wp _ _ _ _ (w.alloc (dO tm.T.zero))
  rw [hW] at H0 HP ⊢
  clear hW
  have hlt := H0.out.1.lt
  go_wp2_with fail
  refine HP.out.mono ?_
  rintro e w1 ⟨rfl, V1, h1, f1, o1⟩
  have k0 : w1.heap[w.heap.size]? = some (dO tm.T.zero) := (f1.block _ (heap_lt H0.out.2.1) (fun x => by have := H0.out.2.2.2.2 _ x; omega)).trans H0.out.2.1
  have n0 : ¬ OwnC c V1 w.heap.size := fun x => by
    rcases o1 _ x with a | a
    · have := H0.out.2.2.2.2 _ a; omega
    · have := H0.out.2.2.2.1; omega
  have oo : ∀ y, OwnC c V1 y → OwnC c V y ∨ w.heap.size ≤ y := fun y hy => (o1 y hy).imp id fun a => by have := H0.out.2.2.2.1; omega
  have ff : Fr (OwnC c V) w w1 := (Fr.of_below H0.out.2.2.1 _).then f1
  have b2 := below_one w1 (tO t)
  have b3 := below_one (w1.alloc (tO t)) (dO t)
  have b23 := b2.trans (b3.mono b2.size)
  have at2 := (b3.block _ (heap_lt (heap_alloc_new w1 (tO t)))).trans (heap_alloc_new w1 (tO t))
  have at3 := heap_alloc_new (w1.alloc (tO t)) (dO t)
  rw [World.size_alloc] at at3
  have nn : ∀ y, w1.heap.size ≤ y → ¬ OwnC c V1 y := fun y hy x => by have := (h1.own_lt x).2; omega
  have H3 := Lib.hid (And.intro (h1.below b23) (And.intro ((b23.block _ (heap_lt k0)).trans k0) (And.intro at2 (And.intro at3 (And.intro (ff.below b23) (And.intro n0 (And.intro oo nn)))))))
  have hle : w.heap.size ≤ w1.heap.size := ff.size
  have hw0 : w.heap.size < w1.heap.size := heap_lt k0
  clear h1 f1 o1 k0 n0 oo ff b2 b3 b23 at2 at3 nn H0 HP hlt
  go_upto_region 3 with fail
  obtain ⟨W3, hW⟩ : ∃ W, (w1.alloc (tO t)).alloc (dO t) = W := ⟨_, rfl⟩
  change Code.wp _ _ _ _ ((w1.alloc (tO t)).alloc (dO t))
  rw [hW] at H3 ⊢
  clear hW
  generalize w1.heap.size = bt at *
  have x0 : W3.cell? ⟨bt, 0, none⟩ = some (.int .i64 t.id) := (cell_of_heap H3.out.2.2.1).trans rfl
  have x1 : W3.cell? ⟨bt, 1, none⟩ = some (.int .i64 t.owner) := (cell_of_heap H3.out.2.2.1).trans rfl
  have x2 : W3.cell? ⟨bt, 2, none⟩ = some (.int .i64 t.due) := (cell_of_heap H3.out.2.2.1).trans rfl
  have x3 : W3.cell? ⟨bt, 3, none⟩ = some (.int .i64 t.every) := (cell_of_heap H3.out.2.2.1).trans rfl
  have fx := thaw (k := 2) H3.out.2.2.1
  have lx := heap_lt H3.out.2.2.1
  have ew : wrap64 (t.due + t.every) = t.due + t.every := by unfold wrap64; omega
  have HX : Hid (Fr (fun y => y = bt) W3 (W3.setCell ⟨bt, 2, none⟩ (.int .i64 (t.due + t.every))) ∧ (W3.setCell ⟨bt, 2, none⟩ (.int .i64 (t.due + t.every))).heap[bt]? = some (tO ⟨t.id, t.owner, t.due + t.every, t.every⟩)) := Lib.hid ⟨(Fr.refl _ _).setCell _ _ (.inr rfl), heap_setCell_same W3 bt 2 _ _ _ H3.out.2.2.1⟩
  go_upto_region 4 with fail
  obtain ⟨W4, hW⟩ : ∃ W, W3.setCell ⟨bt, 2, none⟩ (.int .i64 (t.due + t.every)) = W := ⟨_, rfl⟩
  change Code.wp _ _ _ _ (W3.setCell ⟨bt, 2, none⟩ (.int .i64 (t.due + t.every)))
  rw [hW] at HX ⊢
  clear hW x0 x1 x2 x3 fx lx
  have hkeep : ∀ y, y ≠ bt → y < W3.heap.size → W4.heap[y]? = W3.heap[y]? := fun y hy hl => HX.out.1.block y hl hy
  have H4 : Hid (CK W4 c s.now s.last V1 rest ∧ W4.heap[w.heap.size]? = some (dO tm.T.zero) ∧ W4.heap[bt]? = some (tO ⟨t.id, t.owner, t.due + t.every, t.every⟩) ∧ W4.heap[bt + 1]? = some (dO t) ∧ Fr (OwnC c V) w W4 ∧ ¬ OwnC c V1 w.heap.size ∧ (∀ y, OwnC c V1 y → OwnC c V y ∨ w.heap.size ≤ y) ∧ ∀ y, bt ≤ y → ¬ OwnC c V1 y) := Lib.hid ⟨H3.out.1.keep fun y hy => hkeep y (fun e => H3.out.2.2.2.2.2.2.2 y (by omega) hy) (H3.out.1.own_lt hy).2, (hkeep _ (by omega) (heap_lt H3.out.2.1)).trans H3.out.2.1, HX.out.2, (hkeep _ (by omega) (heap_lt H3.out.2.2.2.1)).trans H3.out.2.2.2.1, H3.out.2.2.2.2.1.trans HX.out.1 (fun k hk e => by omega), H3.out.2.2.2.2.2⟩
  clear hkeep H3 HX
  obtain ⟨b0, hb0⟩ : ∃ b, w.heap.size = b := ⟨_, rfl⟩
  rw [hb0] at H4 hle hw0 ⊢
  have x0 : W4.cell? ⟨bt, 0, none⟩ = some (.int .i64 t.id) := (cell_of_heap H4.out.2.2.1).trans rfl
  have x1 : W4.cell? ⟨bt, 1, none⟩ = some (.int .i64 t.owner) := (cell_of_heap H4.out.2.2.1).trans rfl
  have x2 : W4.cell? ⟨bt, 2, none⟩ = some (.int .i64 (t.due + t.every)) := (cell_of_heap H4.out.2.2.1).trans rfl
  have x3 : W4.cell? ⟨bt, 3, none⟩ = some (.int .i64 t.every) := (cell_of_heap H4.out.2.2.1).trans rfl
  have lx := heap_lt H4.out.2.2.1
  have hlt := H4.out.1.lt
  by_cases hp : 0 < t.every
  · cases hT : tm.isT (t.due + t.every) with
    | false =>
      have HT := Lib.hid (isTime_any (t.due + t.every) W4 _ hT)
      have z0 : W4.cell? ⟨b0, 0, none⟩ = some (.int .i64 0) := (cell_of_heap H4.out.2.1).trans rfl
      have z1 : W4.cell? ⟨b0, 1, none⟩ = some (.int .i64 0) := (cell_of_heap H4.out.2.1).trans rfl
      have z2 : W4.cell? ⟨b0, 2, none⟩ = some (.int .i64 0) := (cell_of_heap H4.out.2.1).trans rfl
      have fz0 := thaw (k := 0) H4.out.2.1
      have fz1 := thaw (k := 1) H4.out.2.1
      have fz2 := thaw (k := 2) H4.out.2.1
      have lz := heap_lt H4.out.2.1
      have y0 : W4.cell? ⟨bt + 1, 0, none⟩ = some (.int .i64 t.id) := (cell_of_heap H4.out.2.2.2.1).trans rfl
      have y1 : W4.cell? ⟨bt + 1, 1, none⟩ = some (.int .i64 t.owner) := (cell_of_heap H4.out.2.2.2.1).trans rfl
      have y2 : W4.cell? ⟨bt + 1, 2, none⟩ = some (.int .i64 t.due) := (cell_of_heap H4.out.2.2.2.1).trans rfl
      have ly := heap_lt H4.out.2.2.2.1
      have HE := Lib.hid (And.intro (setD_at H4.out.2.1 t) (tell_end (Nat.le_of_eq hb0) H4.out.1 H4.out.2.2.2.2.1 (fun y hy => (H4.out.2.2.2.2.2.2.1 y hy).imp id fun a => by rw [hb0]; exact a) H4.out.2.2.2.2.2.1 t))
      go_wp2_with fail
      refine HT.out.mono ?_
      rintro e w' ⟨rfl, hw⟩
      replace hw := hw.symm
      subst hw
      go_wp2_with fail
      all_goals refine bodyPost_ret (results_cell_row rfl _ _ b0 57 _ (0, 0) _ rfl HE.out.1 Try.underlying57 rfl (by kernel_rfl)) rfl ?_
      all_goals exact ⟨rfl, by first | exact HE.out.2 | (rw [if_neg (fun x => by rw [hT] at x; exact absurd x.2 (by decide))]; exact HE.out.2)⟩
    | true =>
      have HT := Lib.hid (isTime_any (t.due + t.every) W4 _ hT)
      go_wp2_with fail
      refine HT.out.mono ?_
      rintro e w' ⟨rfl, hw⟩
      replace hw := hw.symm
      subst hw
      go_upto_region 5 with fail
      have HP := Lib.hid (hpush_any c s.now s.last V1 rest ⟨t.id, t.owner, t.due + t.every, t.every⟩ W4.drew (H4.out.1.below (below_dN (Below.refl _ _) 1)) (by omega))
      clear x0 x1 x2 x3 lx
      have hSD : c < W4.drew.heap.size ∧ W4.drew.heap[bt]? = some (tO ⟨t.id, t.owner, t.due + t.every, t.every⟩) := ⟨hlt, H4.out.2.2.1⟩
      refine wp_region_noPanic ?_
      refine wp_region_held_drew (S := (fun X => c < X.heap.size ∧ X.heap[bt]? = some (tO ⟨t.id, t.owner, t.due + t.every, t.every⟩))) (by kernel_rfl) ?_ (fun hHeld => ?_)
      · exact hSD
      refine wpAnyH_take (i := 0) (v := ?_) rfl (by kernel_rfl) (by kernel_rfl) (by kernel_rfl) (fun _ _ _ h => h) (Or.inl ⟨by rfl, ?_⟩) (by assumption) ?_
      rotate_left
      · ((intro w hSw); (try dsimp only at hSw); (obtain ⟨hl0, hbx⟩ := hSw); (have q0 : w.cell? ⟨bt, 0, none⟩ = some (.int .i64 t.id) := (cell_of_heap hbx).trans rfl); (have q1 : w.cell? ⟨bt, 1, none⟩ = some (.int .i64 t.owner) := (cell_of_heap hbx).trans rfl); (have q2 : w.cell? ⟨bt, 2, none⟩ = some (.int .i64 (t.due + t.every)) := (cell_of_heap hbx).trans rfl); (have q3 : w.cell? ⟨bt, 3, none⟩ = some (.int .i64 t.every) := (cell_of_heap hbx).trans rfl); (have ql := heap_lt hbx); clear hbx; (try simp only [List.getElem_toArray, List.getElem_cons_zero]); (go_simp); (try with_reducible rfl))
      (try simp only [Act.put, List.setIfInBounds_toArray, List.set_cons_zero, List.set_cons_succ, List.getElem_toArray, List.getElem_cons_zero])
      refine wpAnyH_take (i := 1) (v := ?_) rfl (by kernel_rfl) (by kernel_rfl) (by kernel_rfl) (fun _ _ _ h => h) (Or.inl ⟨by rfl, ?_⟩) (by assumption) ?_
      rotate_left
      · ((intro w hSw); (try dsimp only at hSw); (obtain ⟨hl0, hbx⟩ := hSw); (have q0 : w.cell? ⟨bt, 0, none⟩ = some (.int .i64 t.id) := (cell_of_heap hbx).trans rfl); (have q1 : w.cell? ⟨bt, 1, none⟩ = some (.int .i64 t.owner) := (cell_of_heap hbx).trans rfl); (have q2 : w.cell? ⟨bt, 2, none⟩ = some (.int .i64 (t.due + t.every)) := (cell_of_heap hbx).trans rfl); (have q3 : w.cell? ⟨bt, 3, none⟩ = some (.int .i64 t.every) := (cell_of_heap hbx).trans rfl); (have ql := heap_lt hbx); clear hbx; (try simp only [List.getElem_toArray, List.getElem_cons_succ, List.getElem_cons_zero]); (go_simp); (try with_reducible rfl))
      (try simp only [Act.put, List.setIfInBounds_toArray, List.set_cons_zero, List.set_cons_succ, List.getElem_toArray, List.getElem_cons_succ, List.getElem_cons_zero])
      refine wpAnyH_take (i := 2) (v := ?_) rfl (by kernel_rfl) (by kernel_rfl) (by kernel_rfl) (fun _ _ _ h => h) (Or.inl ⟨by rfl, ?_⟩) (by assumption) ?_
      rotate_left
      · ((intro w hSw); (try dsimp only at hSw); (obtain ⟨hl0, hbx⟩ := hSw); (have q0 : w.cell? ⟨bt, 0, none⟩ = some (.int .i64 t.id) := (cell_of_heap hbx).trans rfl); (have q1 : w.cell? ⟨bt, 1, none⟩ = some (.int .i64 t.owner) := (cell_of_heap hbx).trans rfl); (have q2 : w.cell? ⟨bt, 2, none⟩ = some (.int .i64 (t.due + t.every)) := (cell_of_heap hbx).trans rfl); (have q3 : w.cell? ⟨bt, 3, none⟩ = some (.int .i64 t.every) := (cell_of_heap hbx).trans rfl); (have ql := heap_lt hbx); clear hbx; (try simp only [List.getElem_toArray, List.getElem_cons_succ, List.getElem_cons_zero]); (go_simp); (try with_reducible rfl))
      (try simp only [Act.put, List.setIfInBounds_toArray, List.set_cons_zero, List.set_cons_succ, List.getElem_toArray, List.getElem_cons_succ, List.getElem_cons_zero])
      refine wpAnyH_take (i := 3) (v := ?_) rfl (by kernel_rfl) (by kernel_rfl) (by kernel_rfl) (fun _ _ _ h => h) (Or.inl ⟨by rfl, ?_⟩) (by assumption) ?_
      rotate_left
      · ((intro w hSw); (try dsimp only at hSw); (obtain ⟨hl0, hbx⟩ := hSw); (have q0 : w.cell? ⟨bt, 0, none⟩ = some (.int .i64 t.id) := (cell_of_heap hbx).trans rfl); (have q1 : w.cell? ⟨bt, 1, none⟩ = some (.int .i64 t.owner) := (cell_of_heap hbx).trans rfl); (have q2 : w.cell? ⟨bt, 2, none⟩ = some (.int .i64 (t.due + t.every)) := (cell_of_heap hbx).trans rfl); (have q3 : w.cell? ⟨bt, 3, none⟩ = some (.int .i64 t.every) := (cell_of_heap hbx).trans rfl); (have ql := heap_lt hbx); clear hbx; (try simp only [List.getElem_toArray, List.getElem_cons_succ, List.getElem_cons_zero]); (go_simp); (try with_reducible rfl))
      (try simp only [Act.put, List.setIfInBounds_toArray, List.set_cons_zero, List.set_cons_succ, List.getElem_toArray, List.getElem_cons_succ, List.getElem_cons_zero])
      refine wpAnyH_take (i := 4) (v := ?_) rfl (by kernel_rfl) (by kernel_rfl) (by kernel_rfl) (fun _ _ _ h => h) (Or.inl ⟨by rfl, ?_⟩) (by assumption) ?_
      rotate_left
      · ((intro w hSw); (try dsimp only at hSw); (obtain ⟨hl0, hbx⟩ := hSw); (have q0 : w.cell? ⟨bt, 0, none⟩ = some (.int .i64 t.id) := (cell_of_heap hbx).trans rfl); (have q1 : w.cell? ⟨bt, 1, none⟩ = some (.int .i64 t.owner) := (cell_of_heap hbx).trans rfl); (have q2 : w.cell? ⟨bt, 2, none⟩ = some (.int .i64 (t.due + t.every)) := (cell_of_heap hbx).trans rfl); (have q3 : w.cell? ⟨bt, 3, none⟩ = some (.int .i64 t.every) := (cell_of_heap hbx).trans rfl); (have ql := heap_lt hbx); clear hbx; (try simp only [List.getElem_toArray, List.getElem_cons_succ, List.getElem_cons_zero]); (go_simp); (try with_reducible rfl))
      (try simp only [Act.put, List.setIfInBounds_toArray, List.set_cons_zero, List.set_cons_succ, List.getElem_toArray, List.getElem_cons_succ, List.getElem_cons_zero])
      refine wpAnyH_take (i := 5) (v := ?_) rfl (by kernel_rfl) (by kernel_rfl) (by kernel_rfl) (fun _ _ _ h => h) (Or.inl ⟨by rfl, ?_⟩) (by assumption) ?_
      rotate_left
      · ((intro w hSw); (try dsimp only at hSw); (obtain ⟨hl0, hbx⟩ := hSw); (have q0 : w.cell? ⟨bt, 0, none⟩ = some (.int .i64 t.id) := (cell_of_heap hbx).trans rfl); (have q1 : w.cell? ⟨bt, 1, none⟩ = some (.int .i64 t.owner) := (cell_of_heap hbx).trans rfl); (have q2 : w.cell? ⟨bt, 2, none⟩ = some (.int .i64 (t.due + t.every)) := (cell_of_heap hbx).trans rfl); (have q3 : w.cell? ⟨bt, 3, none⟩ = some (.int .i64 t.every) := (cell_of_heap hbx).trans rfl); (have ql := heap_lt hbx); clear hbx; (try simp only [List.getElem_toArray, List.getElem_cons_succ, List.getElem_cons_zero]); (go_simp); (try with_reducible rfl))
      (try simp only [Act.put, List.setIfInBounds_toArray, List.set_cons_zero, List.set_cons_succ, List.getElem_toArray, List.getElem_cons_succ, List.getElem_cons_zero])
      refine wpAnyH_ready (rs := [6]) (by kernel_rfl) (by simp) ?_
      refine AllReadyH.cons rfl (fun K hK => ?_) AllReadyH.nil
      (try simp only [List.getElem_toArray, List.getElem_cons_succ, List.getElem_cons_zero])
      go_simp
      go_at_call 24
      refine HP.out.mono ?_
      rintro e X ⟨rfl, V5, h5, f5, o5⟩
      have hSX : c < X.heap.size ∧ X.heap[bt]? = some (tO ⟨t.id, t.owner, t.due + t.every, t.every⟩) := ⟨h5.lt, (f5.block bt (heap_lt H4.out.2.2.1) (H4.out.2.2.2.2.2.2.2 bt (Nat.le_refl _))).trans H4.out.2.2.1⟩
      (try go_wp2_with fail)
      refine hK.out _ _ ?_ (fun hHeld => ?_)
      · ((try dsimp only); exact hSX)
      clear hK K
      (try simp only [Act.put, List.setIfInBounds_toArray, List.set_cons_zero, List.set_cons_succ, List.getElem_toArray, List.getElem_cons_succ, List.getElem_cons_zero])
      refine wpAnyH_done (by kernel_rfl) ?_ _
      refine NoPanic.normal ?_
      have k0 : X.heap[b0]? = some (dO tm.T.zero) := (f5.block b0 (heap_lt H4.out.2.1) H4.out.2.2.2.2.2.1).trans H4.out.2.1
      have kd : X.heap[bt + 1]? = some (dO t) := (f5.block (bt + 1) (heap_lt H4.out.2.2.2.1) (H4.out.2.2.2.2.2.2.2 _ (Nat.le_succ _))).trans H4.out.2.2.2.1
      have n5 : ¬ OwnC c V5 b0 := fun x => by
        rcases o5 _ x with a | a
        · exact H4.out.2.2.2.2.2.1 a
        · have : b0 < W4.heap.size := heap_lt H4.out.2.1
          exact absurd a (by show ¬ W4.heap.size ≤ b0; omega)
      have hwb : Fr (OwnC c V) w X := H4.out.2.2.2.2.1.drew.trans f5 (fun y hy x => by
        rcases H4.out.2.2.2.2.2.2.1 y x with a | a
        · exact a
        · omega)
      have o6 : ∀ y, OwnC c V5 y → OwnC c V y ∨ w.heap.size ≤ y := fun y hy => by
        rcases o5 y hy with a | a
        · have := H4.out.2.2.2.2.2.2.1 y a
          rcases this with z | z
          · exact .inl z
          · exact .inr (by rw [hb0]; exact z)
        · have : w.heap.size ≤ W4.heap.size := H4.out.2.2.2.2.1.size
          exact .inr (Nat.le_trans this a)
      have z0 : X.cell? ⟨b0, 0, none⟩ = some (.int .i64 0) := (cell_of_heap k0).trans rfl
      have z1 : X.cell? ⟨b0, 1, none⟩ = some (.int .i64 0) := (cell_of_heap k0).trans rfl
      have z2 : X.cell? ⟨b0, 2, none⟩ = some (.int .i64 0) := (cell_of_heap k0).trans rfl
      have fz0 := thaw (k := 0) k0
      have fz1 := thaw (k := 1) k0
      have fz2 := thaw (k := 2) k0
      have lz := heap_lt k0
      have y0 : X.cell? ⟨bt + 1, 0, none⟩ = some (.int .i64 t.id) := (cell_of_heap kd).trans rfl
      have y1 : X.cell? ⟨bt + 1, 1, none⟩ = some (.int .i64 t.owner) := (cell_of_heap kd).trans rfl
      have y2 : X.cell? ⟨bt + 1, 2, none⟩ = some (.int .i64 t.due) := (cell_of_heap kd).trans rfl
      have ly := heap_lt kd
      have HE := Lib.hid (And.intro (setD_at k0 t) (tell_end (Nat.le_of_eq hb0) h5 hwb o6 n5 t))
      clear hSD hHeld hSX h5 f5 o5 k0 kd n5 hwb o6 HP H4
      go_wp2_with fail
      all_goals refine bodyPost_ret (results_cell_row rfl _ _ b0 57 _ (0, 0) _ rfl HE.out.1 Try.underlying57 rfl (by kernel_rfl)) rfl ?_
      all_goals exact ⟨rfl, by first | exact HE.out.2 | (rw [if_pos ⟨hp, hT⟩]; exact HE.out.2)⟩
  · have hp' : t.every ≤ 0 := by omega
    have z0 : W4.cell? ⟨b0, 0, none⟩ = some (.int .i64 0) := (cell_of_heap H4.out.2.1).trans rfl
    have z1 : W4.cell? ⟨b0, 1, none⟩ = some (.int .i64 0) := (cell_of_heap H4.out.2.1).trans rfl
    have z2 : W4.cell? ⟨b0, 2, none⟩ = some (.int .i64 0) := (cell_of_heap H4.out.2.1).trans rfl
    have fz0 := thaw (k := 0) H4.out.2.1
    have fz1 := thaw (k := 1) H4.out.2.1
    have fz2 := thaw (k := 2) H4.out.2.1
    have lz := heap_lt H4.out.2.1
    have y0 : W4.cell? ⟨bt + 1, 0, none⟩ = some (.int .i64 t.id) := (cell_of_heap H4.out.2.2.2.1).trans rfl
    have y1 : W4.cell? ⟨bt + 1, 1, none⟩ = some (.int .i64 t.owner) := (cell_of_heap H4.out.2.2.2.1).trans rfl
    have y2 : W4.cell? ⟨bt + 1, 2, none⟩ = some (.int .i64 t.due) := (cell_of_heap H4.out.2.2.2.1).trans rfl
    have ly := heap_lt H4.out.2.2.2.1
    have HE := Lib.hid (And.intro (setD_at H4.out.2.1 t) (tell_end (Nat.le_of_eq hb0) H4.out.1 H4.out.2.2.2.2.1 (fun y hy => (H4.out.2.2.2.2.2.2.1 y hy).imp id fun a => by rw [hb0]; exact a) H4.out.2.2.2.2.2.1 t))
    go_wp2_with fail
    all_goals refine bodyPost_ret (results_cell_row rfl _ _ b0 57 _ (0, 0) _ rfl HE.out.1 Try.underlying57 rfl (by kernel_rfl)) rfl ?_
    all_goals exact ⟨rfl, by first | exact HE.out.2 | (rw [if_neg (fun x => by omega)]; exact HE.out.2)⟩
end Go.Proofs.Ytfelmnhhldgobaa
