/- casementlaw16.does over the document's new bus: its answer is thrown away, the bus is as behind the call. -/
import Derived.Test.YtgegphciaejkiaaBuRef2
namespace Go.Proofs.Ytgegphciaejkiaa
open Go.RowKit
structure bu.Op where
  (kind p n : Int)
  on : Bool
  e : bu.Ev
abbrev opV (x : bu.Op) : Value := .agg #[.int .i64 x.kind, .int .i64 x.p, .int .i64 x.n, .bool x.on, .int .i64 x.e.kind, .int .i64 x.e.a, .int .i64 x.e.b, .string x.e.text]
abbrev opO (x : bu.Op) : Obj := .cells #[.int .i64 x.kind, .int .i64 x.p, .int .i64 x.n, .bool x.on, .int .i64 x.e.kind, .int .i64 x.e.a, .int .i64 x.e.b, .string x.e.text] 33
/-- a bus behind a call, other boxes ahead of it and behind it -/
theorem does_end {q : Nat} {S S' : Nat → bu.Slot} {V : Nat → Value} {w W5 w6 w7 : World} (h : BuAt w q S V) (h5 : Below w.heap.size w W5) (r : BuR q V W5 w6 S') (h7 : Below w6.heap.size w6 w7) (b : Nat) (hb : w.heap.size ≤ b) (hb5 : b < W5.heap.size) (X : Value) : BuR q V w (w7.setCell ⟨b, 0, none⟩ X) S' := by
  obtain ⟨V', hat, fr, own⟩ := r
  have h67 := hat.below h7
  have hlt := fun y (hy : Own q V y) => (h.own_lt hy).2
  have hne : ∀ y, Own q V' y → y ≠ b := fun y hy e => by
    rcases own y hy with z | z
    · have := hlt y z
      omega
    · omega
  refine ⟨V', h67.keep fun y hy => Below.heap_setCell _ _ _ y (hne y hy), ?_, fun y hy => ?_⟩
  · have f1 : Fr (Own q V) w w7 := ((Fr.of_below h5 _).then fr).below h7
    exact f1.setCell ⟨b, 0, none⟩ X (.inl hb)
  · rcases own y hy with z | z
    · exact .inl z
    · exact .inr (by have := h5.size; omega)
/-- a box that is no bus's stays -/
theorem box_stays {q : Nat} {S' : Nat → bu.Slot} {V : Nat → Value} {w W5 w6 : World} (hlt : ∀ y, Own q V y → y < w.heap.size) (r : BuR q V W5 w6 S') {b : Nat} (hb : w.heap.size ≤ b) {o : Obj} (ho : W5.heap[b]? = some o) : w6.heap[b]? = some o := by
  obtain ⟨V', -, fr, -⟩ := r
  exact (fr.block b (heap_lt ho) fun y => by have := hlt b y; omega).trans ho
set_option maxRecDepth 100000 in
set_option maxHeartbeats 3200000 in
theorem does2_any (q : Nat) (S : Nat → bu.Slot) (V : Nat → Value) (o : Option Addr) (n cap : Nat) (x : bu.Op) (w : World) (h : BuAt w q S V) (hm : RowIn w (fun k => ¬ Own q V k) (.slice o n cap) 4 4 (rsC fun _ => RSl.zero)) (hk : x.kind = 2) : Calls Try.prog 10 #[.pointer (some ⟨q, 0, none⟩), .agg #[.slice o n cap], opV x] w fun e w' => ∃ v b, e = .returned (.tuple #[v, .bool b]) ∧ BuR q V w w' (bu.shutR S x.p).2 := by
  have HKI := Lib.hid hk
  clear hk
  obtain ⟨RES, hRE⟩ : ∃ R, (bu.shutR S x.p).2 = R := ⟨_, rfl⟩
  rw [hRE]
  have HRE := Lib.hid hRE
  clear hRE
  have a1 := heap_alloc_new w (rbO (.slice o n cap))
  have b1 := below_one w (rbO (.slice o n cap))
  have a2 := heap_alloc_new (w.alloc (rbO (.slice o n cap))) (opO x)
  have b2 := below_one (w.alloc (rbO (.slice o n cap))) (opO x)
  have a3 := heap_alloc_new ((w.alloc (rbO (.slice o n cap))).alloc (opO x)) (rbO (.slice none 0 0))
  have b3 := below_one ((w.alloc (rbO (.slice o n cap))).alloc (opO x)) (rbO (.slice none 0 0))
  rw [World.size_alloc] at a2
  rw [World.size_alloc, World.size_alloc] at a3
  have a1' := (b3.block _ (by simp; omega)).trans ((b2.block _ (heap_lt a1)).trans a1)
  have a2' := (b3.block _ (heap_lt a2)).trans a2
  have bb := b1.trans ((b2.trans (b3.mono b2.size)).mono b1.size)
  have HB := Lib.hid (And.intro a1' (And.intro a2' (And.intro a3 (And.intro bb (RowIn.below hm bb)))))
  have HH := Lib.hid h
  have hsz : (((w.alloc (rbO (.slice o n cap))).alloc (opO x)).alloc (rbO (.slice none 0 0))).heap.size = w.heap.size + 3 := by simp
  clear a1 a2 a3 a1' a2' b1 b2 b3 bb hm h
  go_enter Try.func10, Try.ntmps10
  go_upto_region 1 with fail
  obtain ⟨W, hW⟩ : ∃ W, ((w.alloc (rbO (.slice o n cap))).alloc (opO x)).alloc (rbO (.slice none 0 0)) = W := ⟨_, rfl⟩
  rw [hW] at HB hsz
  change Code.wp _ _ _ _ (((w.alloc (rbO (.slice o n cap))).alloc (opO x)).alloc (rbO (.slice none 0 0)))
  rw [hW]
  clear hW
  have c0 : W.cell? ⟨w.heap.size, 0, none⟩ = some (.slice o n cap) := (cell_of_heap HB.out.1).trans rfl
  have c1 : W.cell? ⟨w.heap.size + 1, 1, none⟩ = some (.int .i64 x.p) := (cell_of_heap HB.out.2.1).trans rfl
  have l0 := heap_lt HB.out.1
  have l1 := heap_lt HB.out.2.1
  have HG := Lib.hid (rget_any (.slice o n cap) (fun _ => RSl.zero) x.p W (RowIn.wide HB.out.2.2.2.2 (fun _ _ _ => trivial)))
  rw [show rget (fun _ => RSl.zero) x.p = RSl.zero by unfold rget; split <;> rfl] at HG
  go_wp2_with fail
  refine HG.out.mono ?_
  rintro e w4 ⟨rfl, hb4⟩
  have hb5 := hb4.trans ((below_one w4 (slO RSl.zero)).mono hb4.size)
  have k1 := (hb5.block _ (heap_lt HB.out.1)).trans HB.out.1
  have k2 := (hb5.block _ (heap_lt HB.out.2.1)).trans HB.out.2.1
  have k3 := (hb5.block _ (heap_lt HB.out.2.2.1)).trans HB.out.2.2.1
  have hn8 := heap_alloc_new w4 (slO RSl.zero)
  have hs4 := hb4.size
  have HK := Lib.hid (And.intro k1 (And.intro k2 (And.intro k3 (And.intro (HB.out.2.2.2.1.trans (hb5.mono HB.out.2.2.2.1.size)) (And.intro (RowIn.below HB.out.2.2.2.2 hb5) hn8)))))
  go_upto_region 2 with fail
  obtain ⟨W5, hW⟩ : ∃ W, w4.alloc (slO RSl.zero) = W := ⟨_, rfl⟩
  rw [hW] at HK
  change Code.wp _ _ _ _ (w4.alloc (slO RSl.zero))
  rw [hW]
  have hs5 : w.heap.size + 3 < W5.heap.size := by rw [← hW, World.size_alloc]; omega
  have hs8 : w.heap.size + 3 ≤ w4.heap.size := by omega
  clear hW k1 k2 k3 hn8 hb4 hb5 c0 c1 l0 l1 HG HB hsz hs4
  generalize w4.heap.size = b8 at *
  have c0 : W5.cell? ⟨w.heap.size, 0, none⟩ = some (.slice o n cap) := (cell_of_heap HK.out.1).trans rfl
  have x0 : W5.cell? ⟨w.heap.size + 1, 0, none⟩ = some (.int .i64 x.kind) := (cell_of_heap HK.out.2.1).trans rfl
  have x1 : W5.cell? ⟨w.heap.size + 1, 1, none⟩ = some (.int .i64 x.p) := (cell_of_heap HK.out.2.1).trans rfl
  have o0 : W5.cell? ⟨b8, 0, none⟩ = some (.bool false) := (cell_of_heap HK.out.2.2.2.2.2).trans rfl
  have l0 := heap_lt HK.out.1
  have l1 := heap_lt HK.out.2.1
  have l8 := heap_lt HK.out.2.2.2.2.2
  have HLT := Lib.hid (fun y (hy : Own q V y) => (HH.out.own_lt hy).2)
  rw [HKI.out] at x0
  have HC := Lib.hid (shutP_any q S V x.p W5 (HH.out.below HK.out.2.2.2.1))
  go_wp2_with fail
  refine HC.out.mono ?_
  rintro e w6 ⟨rfl, r⟩
  have k1 := box_stays HLT.out r (Nat.le_refl _) HK.out.1
  have k2 := box_stays HLT.out r (by omega) HK.out.2.1
  have k3 := box_stays HLT.out r (by omega) HK.out.2.2.1
  have HE := Lib.hid (fun X => does_end HH.out HK.out.2.2.2.1 r (Below.refl _ _) (w.heap.size + 1 + 1) (by omega) (by omega) X)
  have HF := Lib.hid (fun (X : Value) => (heap_setCell_same w6 _ 0 _ _ _ k3 : (w6.setCell ⟨w.heap.size + 1 + 1, 0, none⟩ X).heap[w.heap.size + 1 + 1]? = some (rbO X)))
  clear c0 l0 l1 l8 o0 x0 x1
  have c0 : w6.cell? ⟨w.heap.size, 0, none⟩ = some (.slice o n cap) := (cell_of_heap k1).trans rfl
  have l0 := heap_lt k1
  have z0 : w6.cell? ⟨w.heap.size + 1 + 1, 0, none⟩ = some (.slice none 0 0) := (cell_of_heap k3).trans rfl
  have fz := thaw (k := 0) k3
  have lz := heap_lt k3
  go_wp2_with fail
  refine bodyPost_ret (results_row_tmp rfl _ _ (w.heap.size + 1 + 1) 28 _ (0, 0) _ rfl (HF.out _) Try.underlying28 rfl (by kernel_rfl)) rfl ?_
  exact ⟨_, _, rfl, by rw [← HRE.out]; exact HE.out _⟩
set_option maxRecDepth 100000 in
set_option maxHeartbeats 3200000 in
theorem does3_any (q : Nat) (S : Nat → bu.Slot) (V : Nat → Value) (o : Option Addr) (n cap : Nat) (x : bu.Op) (w : World) (h : BuAt w q S V) (hm : RowIn w (fun k => ¬ Own q V k) (.slice o n cap) 4 4 (rsC fun _ => RSl.zero)) (hk : x.kind = 3) : Calls Try.prog 10 #[.pointer (some ⟨q, 0, none⟩), .agg #[.slice o n cap], opV x] w fun e w' => ∃ v b, e = .returned (.tuple #[v, .bool b]) ∧ BuR q V w w' (bu.subR S x.p x.n x.on).2 := by
  have HKI := Lib.hid hk
  clear hk
  obtain ⟨RES, hRE⟩ : ∃ R, (bu.subR S x.p x.n x.on).2 = R := ⟨_, rfl⟩
  rw [hRE]
  have HRE := Lib.hid hRE
  clear hRE
  have a1 := heap_alloc_new w (rbO (.slice o n cap))
  have b1 := below_one w (rbO (.slice o n cap))
  have a2 := heap_alloc_new (w.alloc (rbO (.slice o n cap))) (opO x)
  have b2 := below_one (w.alloc (rbO (.slice o n cap))) (opO x)
  have a3 := heap_alloc_new ((w.alloc (rbO (.slice o n cap))).alloc (opO x)) (rbO (.slice none 0 0))
  have b3 := below_one ((w.alloc (rbO (.slice o n cap))).alloc (opO x)) (rbO (.slice none 0 0))
  rw [World.size_alloc] at a2
  rw [World.size_alloc, World.size_alloc] at a3
  have a1' := (b3.block _ (by simp; omega)).trans ((b2.block _ (heap_lt a1)).trans a1)
  have a2' := (b3.block _ (heap_lt a2)).trans a2
  have bb := b1.trans ((b2.trans (b3.mono b2.size)).mono b1.size)
  have HB := Lib.hid (And.intro a1' (And.intro a2' (And.intro a3 (And.intro bb (RowIn.below hm bb)))))
  have HH := Lib.hid h
  have hsz : (((w.alloc (rbO (.slice o n cap))).alloc (opO x)).alloc (rbO (.slice none 0 0))).heap.size = w.heap.size + 3 := by simp
  clear a1 a2 a3 a1' a2' b1 b2 b3 bb hm h
  go_enter Try.func10, Try.ntmps10
  go_upto_region 1 with fail
  obtain ⟨W, hW⟩ : ∃ W, ((w.alloc (rbO (.slice o n cap))).alloc (opO x)).alloc (rbO (.slice none 0 0)) = W := ⟨_, rfl⟩
  rw [hW] at HB hsz
  change Code.wp _ _ _ _ (((w.alloc (rbO (.slice o n cap))).alloc (opO x)).alloc (rbO (.slice none 0 0)))
  rw [hW]
  clear hW
  have c0 : W.cell? ⟨w.heap.size, 0, none⟩ = some (.slice o n cap) := (cell_of_heap HB.out.1).trans rfl
  have c1 : W.cell? ⟨w.heap.size + 1, 1, none⟩ = some (.int .i64 x.p) := (cell_of_heap HB.out.2.1).trans rfl
  have l0 := heap_lt HB.out.1
  have l1 := heap_lt HB.out.2.1
  have HG := Lib.hid (rget_any (.slice o n cap) (fun _ => RSl.zero) x.p W (RowIn.wide HB.out.2.2.2.2 (fun _ _ _ => trivial)))
  rw [show rget (fun _ => RSl.zero) x.p = RSl.zero by unfold rget; split <;> rfl] at HG
  go_wp2_with fail
  refine HG.out.mono ?_
  rintro e w4 ⟨rfl, hb4⟩
  have hb5 := hb4.trans ((below_one w4 (slO RSl.zero)).mono hb4.size)
  have k1 := (hb5.block _ (heap_lt HB.out.1)).trans HB.out.1
  have k2 := (hb5.block _ (heap_lt HB.out.2.1)).trans HB.out.2.1
  have k3 := (hb5.block _ (heap_lt HB.out.2.2.1)).trans HB.out.2.2.1
  have hn8 := heap_alloc_new w4 (slO RSl.zero)
  have hs4 := hb4.size
  have HK := Lib.hid (And.intro k1 (And.intro k2 (And.intro k3 (And.intro (HB.out.2.2.2.1.trans (hb5.mono HB.out.2.2.2.1.size)) (And.intro (RowIn.below HB.out.2.2.2.2 hb5) hn8)))))
  go_upto_region 2 with fail
  obtain ⟨W5, hW⟩ : ∃ W, w4.alloc (slO RSl.zero) = W := ⟨_, rfl⟩
  rw [hW] at HK
  change Code.wp _ _ _ _ (w4.alloc (slO RSl.zero))
  rw [hW]
  have hs5 : w.heap.size + 3 < W5.heap.size := by rw [← hW, World.size_alloc]; omega
  have hs8 : w.heap.size + 3 ≤ w4.heap.size := by omega
  clear hW k1 k2 k3 hn8 hb4 hb5 c0 c1 l0 l1 HG HB hsz hs4
  generalize w4.heap.size = b8 at *
  have c0 : W5.cell? ⟨w.heap.size, 0, none⟩ = some (.slice o n cap) := (cell_of_heap HK.out.1).trans rfl
  have x0 : W5.cell? ⟨w.heap.size + 1, 0, none⟩ = some (.int .i64 x.kind) := (cell_of_heap HK.out.2.1).trans rfl
  have x1 : W5.cell? ⟨w.heap.size + 1, 1, none⟩ = some (.int .i64 x.p) := (cell_of_heap HK.out.2.1).trans rfl
  have x2 : W5.cell? ⟨w.heap.size + 1, 2, none⟩ = some (.int .i64 x.n) := (cell_of_heap HK.out.2.1).trans rfl
  have x3 : W5.cell? ⟨w.heap.size + 1, 3, none⟩ = some (.bool x.on) := (cell_of_heap HK.out.2.1).trans rfl
  have o0 : W5.cell? ⟨b8, 0, none⟩ = some (.bool false) := (cell_of_heap HK.out.2.2.2.2.2).trans rfl
  have l0 := heap_lt HK.out.1
  have l1 := heap_lt HK.out.2.1
  have l8 := heap_lt HK.out.2.2.2.2.2
  have HLT := Lib.hid (fun y (hy : Own q V y) => (HH.out.own_lt hy).2)
  rw [HKI.out] at x0
  have HC := Lib.hid (subP_any q S V x.p x.n x.on W5 (HH.out.below HK.out.2.2.2.1))
  go_wp2_with fail
  refine HC.out.mono ?_
  rintro e w6 ⟨rfl, r⟩
  have k1 := box_stays HLT.out r (Nat.le_refl _) HK.out.1
  have k2 := box_stays HLT.out r (by omega) HK.out.2.1
  have k3 := box_stays HLT.out r (by omega) HK.out.2.2.1
  have HE := Lib.hid (fun X => does_end HH.out HK.out.2.2.2.1 r (Below.refl _ _) (w.heap.size + 1 + 1) (by omega) (by omega) X)
  have HF := Lib.hid (fun (X : Value) => (heap_setCell_same w6 _ 0 _ _ _ k3 : (w6.setCell ⟨w.heap.size + 1 + 1, 0, none⟩ X).heap[w.heap.size + 1 + 1]? = some (rbO X)))
  clear c0 l0 l1 l8 o0 x0 x1 x2 x3
  have c0 : w6.cell? ⟨w.heap.size, 0, none⟩ = some (.slice o n cap) := (cell_of_heap k1).trans rfl
  have l0 := heap_lt k1
  have z0 : w6.cell? ⟨w.heap.size + 1 + 1, 0, none⟩ = some (.slice none 0 0) := (cell_of_heap k3).trans rfl
  have fz := thaw (k := 0) k3
  have lz := heap_lt k3
  go_wp2_with fail
  refine bodyPost_ret (results_row_tmp rfl _ _ (w.heap.size + 1 + 1) 28 _ (0, 0) _ rfl (HF.out _) Try.underlying28 rfl (by kernel_rfl)) rfl ?_
  exact ⟨_, _, rfl, by rw [← HRE.out]; exact HE.out _⟩
set_option maxRecDepth 100000 in
set_option maxHeartbeats 3200000 in
theorem does5_any (q : Nat) (S : Nat → bu.Slot) (V : Nat → Value) (o : Option Addr) (n cap : Nat) (x : bu.Op) (w : World) (h : BuAt w q S V) (hm : RowIn w (fun k => ¬ Own q V k) (.slice o n cap) 4 4 (rsC fun _ => RSl.zero)) (hk : x.kind = 5) (hn : ∀ i, i < 4 → (S i).queue.length ≤ 16) (hd : ∀ i, i < 4 → 0 ≤ (S i).dropped ∧ (S i).dropped < 9223372036854775807) : Calls Try.prog 10 #[.pointer (some ⟨q, 0, none⟩), .agg #[.slice o n cap], opV x] w fun e w' => ∃ v b, e = .returned (.tuple #[v, .bool b]) ∧ BuR q V w w' (bu.sendR S x.p x.e).2 := by
  have HKI := Lib.hid hk
  clear hk
  obtain ⟨RES, hRE⟩ : ∃ R, (bu.sendR S x.p x.e).2 = R := ⟨_, rfl⟩
  rw [hRE]
  have HRE := Lib.hid hRE
  clear hRE
  have a1 := heap_alloc_new w (rbO (.slice o n cap))
  have b1 := below_one w (rbO (.slice o n cap))
  have a2 := heap_alloc_new (w.alloc (rbO (.slice o n cap))) (opO x)
  have b2 := below_one (w.alloc (rbO (.slice o n cap))) (opO x)
  have a3 := heap_alloc_new ((w.alloc (rbO (.slice o n cap))).alloc (opO x)) (rbO (.slice none 0 0))
  have b3 := below_one ((w.alloc (rbO (.slice o n cap))).alloc (opO x)) (rbO (.slice none 0 0))
  rw [World.size_alloc] at a2
  rw [World.size_alloc, World.size_alloc] at a3
  have a1' := (b3.block _ (by simp; omega)).trans ((b2.block _ (heap_lt a1)).trans a1)
  have a2' := (b3.block _ (heap_lt a2)).trans a2
  have bb := b1.trans ((b2.trans (b3.mono b2.size)).mono b1.size)
  have HB := Lib.hid (And.intro a1' (And.intro a2' (And.intro a3 (And.intro bb (RowIn.below hm bb)))))
  have HH := Lib.hid h
  have hsz : (((w.alloc (rbO (.slice o n cap))).alloc (opO x)).alloc (rbO (.slice none 0 0))).heap.size = w.heap.size + 3 := by simp
  clear a1 a2 a3 a1' a2' b1 b2 b3 bb hm h
  go_enter Try.func10, Try.ntmps10
  go_upto_region 1 with fail
  obtain ⟨W, hW⟩ : ∃ W, ((w.alloc (rbO (.slice o n cap))).alloc (opO x)).alloc (rbO (.slice none 0 0)) = W := ⟨_, rfl⟩
  rw [hW] at HB hsz
  change Code.wp _ _ _ _ (((w.alloc (rbO (.slice o n cap))).alloc (opO x)).alloc (rbO (.slice none 0 0)))
  rw [hW]
  clear hW
  have c0 : W.cell? ⟨w.heap.size, 0, none⟩ = some (.slice o n cap) := (cell_of_heap HB.out.1).trans rfl
  have c1 : W.cell? ⟨w.heap.size + 1, 1, none⟩ = some (.int .i64 x.p) := (cell_of_heap HB.out.2.1).trans rfl
  have l0 := heap_lt HB.out.1
  have l1 := heap_lt HB.out.2.1
  have HG := Lib.hid (rget_any (.slice o n cap) (fun _ => RSl.zero) x.p W (RowIn.wide HB.out.2.2.2.2 (fun _ _ _ => trivial)))
  rw [show rget (fun _ => RSl.zero) x.p = RSl.zero by unfold rget; split <;> rfl] at HG
  go_wp2_with fail
  refine HG.out.mono ?_
  rintro e w4 ⟨rfl, hb4⟩
  have hb5 := hb4.trans ((below_one w4 (slO RSl.zero)).mono hb4.size)
  have k1 := (hb5.block _ (heap_lt HB.out.1)).trans HB.out.1
  have k2 := (hb5.block _ (heap_lt HB.out.2.1)).trans HB.out.2.1
  have k3 := (hb5.block _ (heap_lt HB.out.2.2.1)).trans HB.out.2.2.1
  have hn8 := heap_alloc_new w4 (slO RSl.zero)
  have hs4 := hb4.size
  have HK := Lib.hid (And.intro k1 (And.intro k2 (And.intro k3 (And.intro (HB.out.2.2.2.1.trans (hb5.mono HB.out.2.2.2.1.size)) (And.intro (RowIn.below HB.out.2.2.2.2 hb5) hn8)))))
  go_upto_region 2 with fail
  obtain ⟨W5, hW⟩ : ∃ W, w4.alloc (slO RSl.zero) = W := ⟨_, rfl⟩
  rw [hW] at HK
  change Code.wp _ _ _ _ (w4.alloc (slO RSl.zero))
  rw [hW]
  have hs5 : w.heap.size + 3 < W5.heap.size := by rw [← hW, World.size_alloc]; omega
  have hs8 : w.heap.size + 3 ≤ w4.heap.size := by omega
  clear hW k1 k2 k3 hn8 hb4 hb5 c0 c1 l0 l1 HG HB hsz hs4
  generalize w4.heap.size = b8 at *
  have c0 : W5.cell? ⟨w.heap.size, 0, none⟩ = some (.slice o n cap) := (cell_of_heap HK.out.1).trans rfl
  have x0 : W5.cell? ⟨w.heap.size + 1, 0, none⟩ = some (.int .i64 x.kind) := (cell_of_heap HK.out.2.1).trans rfl
  have x1 : W5.cell? ⟨w.heap.size + 1, 1, none⟩ = some (.int .i64 x.p) := (cell_of_heap HK.out.2.1).trans rfl
  have x4 : W5.cell? ⟨w.heap.size + 1, 4, none⟩ = some (.int .i64 x.e.kind) := (cell_of_heap HK.out.2.1).trans rfl
  have x5 : W5.cell? ⟨w.heap.size + 1, 5, none⟩ = some (.int .i64 x.e.a) := (cell_of_heap HK.out.2.1).trans rfl
  have x6 : W5.cell? ⟨w.heap.size + 1, 6, none⟩ = some (.int .i64 x.e.b) := (cell_of_heap HK.out.2.1).trans rfl
  have x7 : W5.cell? ⟨w.heap.size + 1, 7, none⟩ = some (.string x.e.text) := (cell_of_heap HK.out.2.1).trans rfl
  have o0 : W5.cell? ⟨b8, 0, none⟩ = some (.bool false) := (cell_of_heap HK.out.2.2.2.2.2).trans rfl
  have l0 := heap_lt HK.out.1
  have l1 := heap_lt HK.out.2.1
  have l8 := heap_lt HK.out.2.2.2.2.2
  have HLT := Lib.hid (fun y (hy : Own q V y) => (HH.out.own_lt hy).2)
  rw [HKI.out] at x0
  have HC := Lib.hid (sendP_any q S V x.p x.e W5 (HH.out.below HK.out.2.2.2.1) hn hd)
  clear hn hd
  go_wp2_with fail
  refine HC.out.mono ?_
  rintro e w6 ⟨rfl, r⟩
  have k1 := box_stays HLT.out r (Nat.le_refl _) HK.out.1
  have k2 := box_stays HLT.out r (by omega) HK.out.2.1
  have k3 := box_stays HLT.out r (by omega) HK.out.2.2.1
  have HE := Lib.hid (fun X => does_end HH.out HK.out.2.2.2.1 r (Below.refl _ _) (w.heap.size + 1 + 1) (by omega) (by omega) X)
  have HF := Lib.hid (fun (X : Value) => (heap_setCell_same w6 _ 0 _ _ _ k3 : (w6.setCell ⟨w.heap.size + 1 + 1, 0, none⟩ X).heap[w.heap.size + 1 + 1]? = some (rbO X)))
  clear c0 l0 l1 l8 o0 x0 x1 x4 x5 x6 x7
  have c0 : w6.cell? ⟨w.heap.size, 0, none⟩ = some (.slice o n cap) := (cell_of_heap k1).trans rfl
  have l0 := heap_lt k1
  have z0 : w6.cell? ⟨w.heap.size + 1 + 1, 0, none⟩ = some (.slice none 0 0) := (cell_of_heap k3).trans rfl
  have fz := thaw (k := 0) k3
  have lz := heap_lt k3
  go_wp2_with fail
  refine bodyPost_ret (results_row_tmp rfl _ _ (w.heap.size + 1 + 1) 28 _ (0, 0) _ rfl (HF.out _) Try.underlying28 rfl (by kernel_rfl)) rfl ?_
  exact ⟨_, _, rfl, by rw [← HRE.out]; exact HE.out _⟩
set_option maxRecDepth 100000 in
set_option maxHeartbeats 3200000 in
theorem does0_any (q : Nat) (S : Nat → bu.Slot) (V : Nat → Value) (o : Option Addr) (n cap : Nat) (x : bu.Op) (w : World) (h : BuAt w q S V) (hm : RowIn w (fun k => ¬ Own q V k) (.slice o n cap) 4 4 (rsC fun _ => RSl.zero)) (hk : x.kind ≠ 1 ∧ x.kind ≠ 2 ∧ x.kind ≠ 3 ∧ x.kind ≠ 4 ∧ x.kind ≠ 5 ∧ x.kind ≠ 6) : Calls Try.prog 10 #[.pointer (some ⟨q, 0, none⟩), .agg #[.slice o n cap], opV x] w fun e w' => ∃ v b, e = .returned (.tuple #[v, .bool b]) ∧ BuR q V w w' S := by
  have HKI := Lib.hid hk
  clear hk
  have a1 := heap_alloc_new w (rbO (.slice o n cap))
  have b1 := below_one w (rbO (.slice o n cap))
  have a2 := heap_alloc_new (w.alloc (rbO (.slice o n cap))) (opO x)
  have b2 := below_one (w.alloc (rbO (.slice o n cap))) (opO x)
  have a3 := heap_alloc_new ((w.alloc (rbO (.slice o n cap))).alloc (opO x)) (rbO (.slice none 0 0))
  have b3 := below_one ((w.alloc (rbO (.slice o n cap))).alloc (opO x)) (rbO (.slice none 0 0))
  rw [World.size_alloc] at a2
  rw [World.size_alloc, World.size_alloc] at a3
  have a1' := (b3.block _ (by simp; omega)).trans ((b2.block _ (heap_lt a1)).trans a1)
  have a2' := (b3.block _ (heap_lt a2)).trans a2
  have bb := b1.trans ((b2.trans (b3.mono b2.size)).mono b1.size)
  have HB := Lib.hid (And.intro a1' (And.intro a2' (And.intro a3 (And.intro bb (RowIn.below hm bb)))))
  have HH := Lib.hid h
  have hsz : (((w.alloc (rbO (.slice o n cap))).alloc (opO x)).alloc (rbO (.slice none 0 0))).heap.size = w.heap.size + 3 := by simp
  clear a1 a2 a3 a1' a2' b1 b2 b3 bb hm h
  go_enter Try.func10, Try.ntmps10
  go_upto_region 1 with fail
  obtain ⟨W, hW⟩ : ∃ W, ((w.alloc (rbO (.slice o n cap))).alloc (opO x)).alloc (rbO (.slice none 0 0)) = W := ⟨_, rfl⟩
  rw [hW] at HB hsz
  change Code.wp _ _ _ _ (((w.alloc (rbO (.slice o n cap))).alloc (opO x)).alloc (rbO (.slice none 0 0)))
  rw [hW]
  clear hW
  have c0 : W.cell? ⟨w.heap.size, 0, none⟩ = some (.slice o n cap) := (cell_of_heap HB.out.1).trans rfl
  have c1 : W.cell? ⟨w.heap.size + 1, 1, none⟩ = some (.int .i64 x.p) := (cell_of_heap HB.out.2.1).trans rfl
  have l0 := heap_lt HB.out.1
  have l1 := heap_lt HB.out.2.1
  have HG := Lib.hid (rget_any (.slice o n cap) (fun _ => RSl.zero) x.p W (RowIn.wide HB.out.2.2.2.2 (fun _ _ _ => trivial)))
  rw [show rget (fun _ => RSl.zero) x.p = RSl.zero by unfold rget; split <;> rfl] at HG
  go_wp2_with fail
  refine HG.out.mono ?_
  rintro e w4 ⟨rfl, hb4⟩
  have hb5 := hb4.trans ((below_one w4 (slO RSl.zero)).mono hb4.size)
  have k1 := (hb5.block _ (heap_lt HB.out.1)).trans HB.out.1
  have k2 := (hb5.block _ (heap_lt HB.out.2.1)).trans HB.out.2.1
  have k3 := (hb5.block _ (heap_lt HB.out.2.2.1)).trans HB.out.2.2.1
  have hn8 := heap_alloc_new w4 (slO RSl.zero)
  have hs4 := hb4.size
  have HK := Lib.hid (And.intro k1 (And.intro k2 (And.intro k3 (And.intro (HB.out.2.2.2.1.trans (hb5.mono HB.out.2.2.2.1.size)) (And.intro (RowIn.below HB.out.2.2.2.2 hb5) hn8)))))
  go_upto_region 2 with fail
  obtain ⟨W5, hW⟩ : ∃ W, w4.alloc (slO RSl.zero) = W := ⟨_, rfl⟩
  rw [hW] at HK
  change Code.wp _ _ _ _ (w4.alloc (slO RSl.zero))
  rw [hW]
  have hs5 : w.heap.size + 3 < W5.heap.size := by rw [← hW, World.size_alloc]; omega
  have hs8 : w.heap.size + 3 ≤ w4.heap.size := by omega
  clear hW k1 k2 k3 hn8 hb4 hb5 c0 c1 l0 l1 HG HB hsz hs4
  generalize w4.heap.size = b8 at *
  have c0 : W5.cell? ⟨w.heap.size, 0, none⟩ = some (.slice o n cap) := (cell_of_heap HK.out.1).trans rfl
  have x0 : W5.cell? ⟨w.heap.size + 1, 0, none⟩ = some (.int .i64 x.kind) := (cell_of_heap HK.out.2.1).trans rfl
  have x1 : W5.cell? ⟨w.heap.size + 1, 1, none⟩ = some (.int .i64 x.p) := (cell_of_heap HK.out.2.1).trans rfl
  have o0 : W5.cell? ⟨b8, 0, none⟩ = some (.bool false) := (cell_of_heap HK.out.2.2.2.2.2).trans rfl
  have l0 := heap_lt HK.out.1
  have l1 := heap_lt HK.out.2.1
  have l8 := heap_lt HK.out.2.2.2.2.2
  have HLT := Lib.hid (fun y (hy : Own q V y) => (HH.out.own_lt hy).2)
  have hk1 : (x.kind == 1) = false := beq_eq_false_iff_ne.2 HKI.out.1
  have hk2 : (x.kind == 2) = false := beq_eq_false_iff_ne.2 HKI.out.2.1
  have hk3 : (x.kind == 3) = false := beq_eq_false_iff_ne.2 HKI.out.2.2.1
  have hk4 : (x.kind == 4) = false := beq_eq_false_iff_ne.2 HKI.out.2.2.2.1
  have hk5 : (x.kind == 5) = false := beq_eq_false_iff_ne.2 HKI.out.2.2.2.2.1
  have hk6 : (x.kind == 6) = false := beq_eq_false_iff_ne.2 HKI.out.2.2.2.2.2
  have k3 := HK.out.2.2.1
  have HE := Lib.hid (fun X => does_end HH.out HK.out.2.2.2.1 (BuK.same (HH.out.below HK.out.2.2.2.1)).toR (Below.refl _ _) (w.heap.size + 1 + 1) (by omega) (by omega) X)
  have HF := Lib.hid (fun (X : Value) => (heap_setCell_same W5 _ 0 _ _ _ k3 : (W5.setCell ⟨w.heap.size + 1 + 1, 0, none⟩ X).heap[w.heap.size + 1 + 1]? = some (rbO X)))
  have z0 : W5.cell? ⟨w.heap.size + 1 + 1, 0, none⟩ = some (.slice none 0 0) := (cell_of_heap k3).trans rfl
  have fz := thaw (k := 0) k3
  have lz := heap_lt k3
  go_wp2_with fail
  refine bodyPost_ret (results_row_tmp rfl _ _ (w.heap.size + 1 + 1) 28 _ (0, 0) _ rfl (HF.out _) Try.underlying28 rfl (by kernel_rfl)) rfl ?_
  exact ⟨_, _, rfl, HE.out _⟩
set_option maxRecDepth 100000 in
set_option maxHeartbeats 3200000 in
theorem does1_any (q : Nat) (S : Nat → bu.Slot) (V : Nat → Value) (o : Option Addr) (n cap : Nat) (x : bu.Op) (w : World) (h : BuAt w q S V) (hm : RowIn w (fun k => ¬ Own q V k) (.slice o n cap) 4 4 (rsC fun _ => RSl.zero)) (hk : x.kind = 1) : Calls Try.prog 10 #[.pointer (some ⟨q, 0, none⟩), .agg #[.slice o n cap], opV x] w fun e w' => ∃ v b, e = .returned (.tuple #[v, .bool b]) ∧ BuR q V w w' (bu.openR S x.p).2 := by
  have HKI := Lib.hid hk
  clear hk
  obtain ⟨RES, hRE⟩ : ∃ R, (bu.openR S x.p).2 = R := ⟨_, rfl⟩
  rw [hRE]
  have HRE := Lib.hid hRE
  clear hRE
  have a1 := heap_alloc_new w (rbO (.slice o n cap))
  have b1 := below_one w (rbO (.slice o n cap))
  have a2 := heap_alloc_new (w.alloc (rbO (.slice o n cap))) (opO x)
  have b2 := below_one (w.alloc (rbO (.slice o n cap))) (opO x)
  have a3 := heap_alloc_new ((w.alloc (rbO (.slice o n cap))).alloc (opO x)) (rbO (.slice none 0 0))
  have b3 := below_one ((w.alloc (rbO (.slice o n cap))).alloc (opO x)) (rbO (.slice none 0 0))
  rw [World.size_alloc] at a2
  rw [World.size_alloc, World.size_alloc] at a3
  have a1' := (b3.block _ (by simp; omega)).trans ((b2.block _ (heap_lt a1)).trans a1)
  have a2' := (b3.block _ (heap_lt a2)).trans a2
  have bb := b1.trans ((b2.trans (b3.mono b2.size)).mono b1.size)
  have HB := Lib.hid (And.intro a1' (And.intro a2' (And.intro a3 (And.intro bb (RowIn.below hm bb)))))
  have HH := Lib.hid h
  have hsz : (((w.alloc (rbO (.slice o n cap))).alloc (opO x)).alloc (rbO (.slice none 0 0))).heap.size = w.heap.size + 3 := by simp
  clear a1 a2 a3 a1' a2' b1 b2 b3 bb hm h
  go_enter Try.func10, Try.ntmps10
  go_upto_region 1 with fail
  obtain ⟨W, hW⟩ : ∃ W, ((w.alloc (rbO (.slice o n cap))).alloc (opO x)).alloc (rbO (.slice none 0 0)) = W := ⟨_, rfl⟩
  rw [hW] at HB hsz
  change Code.wp _ _ _ _ (((w.alloc (rbO (.slice o n cap))).alloc (opO x)).alloc (rbO (.slice none 0 0)))
  rw [hW]
  clear hW
  have c0 : W.cell? ⟨w.heap.size, 0, none⟩ = some (.slice o n cap) := (cell_of_heap HB.out.1).trans rfl
  have c1 : W.cell? ⟨w.heap.size + 1, 1, none⟩ = some (.int .i64 x.p) := (cell_of_heap HB.out.2.1).trans rfl
  have l0 := heap_lt HB.out.1
  have l1 := heap_lt HB.out.2.1
  have HG := Lib.hid (rget_any (.slice o n cap) (fun _ => RSl.zero) x.p W (RowIn.wide HB.out.2.2.2.2 (fun _ _ _ => trivial)))
  rw [show rget (fun _ => RSl.zero) x.p = RSl.zero by unfold rget; split <;> rfl] at HG
  go_wp2_with fail
  refine HG.out.mono ?_
  rintro e w4 ⟨rfl, hb4⟩
  have hb5 := hb4.trans ((below_one w4 (slO RSl.zero)).mono hb4.size)
  have k1 := (hb5.block _ (heap_lt HB.out.1)).trans HB.out.1
  have k2 := (hb5.block _ (heap_lt HB.out.2.1)).trans HB.out.2.1
  have k3 := (hb5.block _ (heap_lt HB.out.2.2.1)).trans HB.out.2.2.1
  have hn8 := heap_alloc_new w4 (slO RSl.zero)
  have hs4 := hb4.size
  have HK := Lib.hid (And.intro k1 (And.intro k2 (And.intro k3 (And.intro (HB.out.2.2.2.1.trans (hb5.mono HB.out.2.2.2.1.size)) (And.intro (RowIn.below HB.out.2.2.2.2 hb5) hn8)))))
  go_upto_region 2 with fail
  obtain ⟨W5, hW⟩ : ∃ W, w4.alloc (slO RSl.zero) = W := ⟨_, rfl⟩
  rw [hW] at HK
  change Code.wp _ _ _ _ (w4.alloc (slO RSl.zero))
  rw [hW]
  have hs5 : w.heap.size + 3 < W5.heap.size := by rw [← hW, World.size_alloc]; omega
  have hs8 : w.heap.size + 3 ≤ w4.heap.size := by omega
  clear hW k1 k2 k3 hn8 hb4 hb5 c0 c1 l0 l1 HG HB hsz hs4
  generalize w4.heap.size = b8 at *
  have c0 : W5.cell? ⟨w.heap.size, 0, none⟩ = some (.slice o n cap) := (cell_of_heap HK.out.1).trans rfl
  have x0 : W5.cell? ⟨w.heap.size + 1, 0, none⟩ = some (.int .i64 x.kind) := (cell_of_heap HK.out.2.1).trans rfl
  have x1 : W5.cell? ⟨w.heap.size + 1, 1, none⟩ = some (.int .i64 x.p) := (cell_of_heap HK.out.2.1).trans rfl
  have o0 : W5.cell? ⟨b8, 0, none⟩ = some (.bool false) := (cell_of_heap HK.out.2.2.2.2.2).trans rfl
  have l0 := heap_lt HK.out.1
  have l1 := heap_lt HK.out.2.1
  have l8 := heap_lt HK.out.2.2.2.2.2
  have HLT := Lib.hid (fun y (hy : Own q V y) => (HH.out.own_lt hy).2)
  rw [HKI.out] at x0
  have HC := Lib.hid (openP_any q S V x.p W5 (HH.out.below HK.out.2.2.2.1))
  have HM5 := Lib.hid HK.out.2.2.2.2.1
  go_wp2_with fail
  refine HC.out.mono ?_
  rintro e w6 ⟨rfl, r⟩
  have k1 := box_stays HLT.out r (Nat.le_refl _) HK.out.1
  have k2 := box_stays HLT.out r (by omega) HK.out.2.1
  have k3 := box_stays HLT.out r (by omega) HK.out.2.2.1
  have HE := Lib.hid (fun X => does_end HH.out HK.out.2.2.2.1 r (Below.refl _ _) (w.heap.size + 1 + 1) (by omega) (by omega) X)
  have HF := Lib.hid (fun (X : Value) => (heap_setCell_same w6 _ 0 _ _ _ k3 : (w6.setCell ⟨w.heap.size + 1 + 1, 0, none⟩ X).heap[w.heap.size + 1 + 1]? = some (rbO X)))
  have k8 := box_stays HLT.out r (by omega) HK.out.2.2.2.2.2
  clear c0 l0 l1 l8 o0 x0 x1
  have c0 : w6.cell? ⟨w.heap.size, 0, none⟩ = some (.slice o n cap) := (cell_of_heap k1).trans rfl
  have l0 := heap_lt k1
  have z0 : w6.cell? ⟨w.heap.size + 1 + 1, 0, none⟩ = some (.slice none 0 0) := (cell_of_heap k3).trans rfl
  have fz := thaw (k := 0) k3
  have lz := heap_lt k3
  have x1 : w6.cell? ⟨w.heap.size + 1, 1, none⟩ = some (.int .i64 x.p) := (cell_of_heap k2).trans rfl
  have l1 := heap_lt k2
  by_cases hp1 : x.p < 1
  · go_wp2_with fail
    refine bodyPost_ret (results_row_tmp rfl _ _ (w.heap.size + 1 + 1) 28 _ (0, 0) _ rfl (HF.out _) Try.underlying28 rfl (by kernel_rfl)) rfl ?_
    exact ⟨_, _, rfl, by rw [← HRE.out]; exact HE.out _⟩
  by_cases hp4 : 4 < x.p
  · go_wp2_with fail
    refine bodyPost_ret (results_row_tmp rfl _ _ (w.heap.size + 1 + 1) 28 _ (0, 0) _ rfl (HF.out _) Try.underlying28 rfl (by kernel_rfl)) rfl ?_
    exact ⟨_, _, rfl, by rw [← HRE.out]; exact HE.out _⟩
  have HM6 : Hid (RB w6 (.slice o n cap) (fun _ => RSl.zero)) := Lib.hid (by
    obtain ⟨V', -, fr, -⟩ := r
    exact RowIn.wide (RowIn.fr HM5.out fr (fun k hd _ => hd)) (fun _ _ _ => trivial))
  have HW := Lib.hid (rwith_any (.slice o n cap) (fun _ => RSl.zero) x.p ⟨by omega, by omega⟩ ⟨true, none, 0, 0, none, 0, 0, 0⟩ w6 HM6.out)
  have HEE := Lib.hid (fun (w7 : World) (h7 : Below w6.heap.size w6 w7) X => does_end HH.out HK.out.2.2.2.1 r h7 (w.heap.size + 1 + 1) (by omega) (by omega) X)
  have HK3 := Lib.hid (fun (w7 : World) (h7 : Below w6.heap.size w6 w7) => (h7.block _ (heap_lt k3)).trans k3)
  clear k1 k2 k3 k8 HE HF r
  go_wp2_with fail
  refine HW.out.mono ?_
  rintro e w7 ⟨V7, rfl, hr7, hb7⟩
  obtain ⟨o7, c7, rfl, -⟩ := hr7
  have k3 := HK3.out w7 hb7
  have HE := Lib.hid (HEE.out w7 hb7)
  have HF := Lib.hid (fun (X : Value) => (heap_setCell_same w7 _ 0 _ _ _ k3 : (w7.setCell ⟨w.heap.size + 1 + 1, 0, none⟩ X).heap[w.heap.size + 1 + 1]? = some (rbO X)))
  have z0' : w7.cell? ⟨w.heap.size + 1 + 1, 0, none⟩ = some (.slice none 0 0) := (cell_of_heap k3).trans rfl
  have fz' := thaw (k := 0) k3
  have lz' := heap_lt k3
  clear z0 fz lz c0 l0 x1 l1 k3 hb7
  go_wp2_with fail
  refine bodyPost_ret (results_row_tmp rfl _ _ (w.heap.size + 1 + 1) 28 _ (0, 0) _ rfl (HF.out _) Try.underlying28 rfl (by kernel_rfl)) rfl ?_
  exact ⟨_, _, rfl, by rw [← HRE.out]; exact HE.out _⟩
end Go.Proofs.Ytgegphciaejkiaa
