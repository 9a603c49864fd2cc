/- csi: the act of a control sequence. -/
import Derived.Test.YtijfpfkmfibjjaaDoorEscClone
namespace Go.Proofs.YtijfpfkmfibjjaaDoor
open Go.RowKit

theorem mins16 (n : Nat) : min (n : Int) 16 = ((min n 16 : Nat) : Int) := by omega
theorem PsAt.params {w : World} {p : Nat} {s : es.St} {cur : Array Value} (h : PsAt w p s cur) : Nums .i64 w (some ⟨p, 9, none⟩) (min s.params.length 16) 17 (s.params.take 16) := by
  refine ⟨by rw [List.length_take, Nat.min_comm], by omega, by unfold maxLen; omega, .inr ⟨p, 9, rfl, h.lt, fun k hk => ?_⟩⟩
  rw [h.c (9 + k), h.is.par k (by omega), getD_take _ _ _ (by omega)]
theorem store7 {w1 : World} {g : Nat} {z0 z1 z2 z3 z4 z5 z6 : Value} {T : TypeId} (hg : w1.heap[g]? = some (.cells #[z0, z1, z2, z3, z4, z5, z6] T (0, 0))) (a0 a1 a2 a3 a4 a5 a6 : Value) :
    (((((((w1.setCell ⟨g, 0, none⟩ a0).setCell ⟨g, 1, none⟩ a1).setCell ⟨g, 2, none⟩ a2).setCell ⟨g, 3, none⟩ a3).setCell ⟨g, 4, none⟩ a4).setCell ⟨g, 5, none⟩ a5).setCell ⟨g, 6, none⟩ a6).heap[g]? = some (.cells #[a0, a1, a2, a3, a4, a5, a6] T (0, 0)) ∧ Kept w1 (((((((w1.setCell ⟨g, 0, none⟩ a0).setCell ⟨g, 1, none⟩ a1).setCell ⟨g, 2, none⟩ a2).setCell ⟨g, 3, none⟩ a3).setCell ⟨g, 4, none⟩ a4).setCell ⟨g, 5, none⟩ a5).setCell ⟨g, 6, none⟩ a6) (· = g) := by
  refine ⟨?_, ((((((((Kept.refl w1 (· = g)).setCell (p := ⟨g, 0, none⟩) (fun _ => rfl) a0).setCell (p := ⟨g, 1, none⟩) (fun _ => rfl) a1).setCell (p := ⟨g, 2, none⟩) (fun _ => rfl) a2).setCell (p := ⟨g, 3, none⟩) (fun _ => rfl) a3).setCell (p := ⟨g, 4, none⟩) (fun _ => rfl) a4).setCell (p := ⟨g, 5, none⟩) (fun _ => rfl) a5).setCell (p := ⟨g, 6, none⟩) (fun _ => rfl) a6)⟩
  have h0 := heap_setCell_same w1 g 0 _ T a0 hg
  simp only [List.setIfInBounds_toArray, List.set_cons_zero] at h0
  have h1 := heap_setCell_same (w1.setCell ⟨g, 0, none⟩ a0) g 1 _ T a1 h0
  simp only [List.setIfInBounds_toArray, List.set_cons_zero, List.set_cons_succ] at h1
  have h2 := heap_setCell_same ((w1.setCell ⟨g, 0, none⟩ a0).setCell ⟨g, 1, none⟩ a1) g 2 _ T a2 h1
  simp only [List.setIfInBounds_toArray, List.set_cons_zero, List.set_cons_succ] at h2
  have h3 := heap_setCell_same (((w1.setCell ⟨g, 0, none⟩ a0).setCell ⟨g, 1, none⟩ a1).setCell ⟨g, 2, none⟩ a2) g 3 _ T a3 h2
  simp only [List.setIfInBounds_toArray, List.set_cons_zero, List.set_cons_succ] at h3
  have h4 := heap_setCell_same ((((w1.setCell ⟨g, 0, none⟩ a0).setCell ⟨g, 1, none⟩ a1).setCell ⟨g, 2, none⟩ a2).setCell ⟨g, 3, none⟩ a3) g 4 _ T a4 h3
  simp only [List.setIfInBounds_toArray, List.set_cons_zero, List.set_cons_succ] at h4
  have h5 := heap_setCell_same (((((w1.setCell ⟨g, 0, none⟩ a0).setCell ⟨g, 1, none⟩ a1).setCell ⟨g, 2, none⟩ a2).setCell ⟨g, 3, none⟩ a3).setCell ⟨g, 4, none⟩ a4) g 5 _ T a5 h4
  simp only [List.setIfInBounds_toArray, List.set_cons_zero, List.set_cons_succ] at h5
  have h6 := heap_setCell_same ((((((w1.setCell ⟨g, 0, none⟩ a0).setCell ⟨g, 1, none⟩ a1).setCell ⟨g, 2, none⟩ a2).setCell ⟨g, 3, none⟩ a3).setCell ⟨g, 4, none⟩ a4).setCell ⟨g, 5, none⟩ a5) g 6 _ T a6 h5
  simp only [List.setIfInBounds_toArray, List.set_cons_zero, List.set_cons_succ] at h6
  exact h6
theorem act1_own {w : World} {B B' n : Nat} {a : es.Act} {o : Option Addr} {cap : Nat} (h : Own w B' 3 .i64 o n cap a.params) (hB : B ≤ B') (hn : a.params.length = n) : Act1 w B a o cap := by
  subst hn
  refine ⟨h.nums, fun h0 d hd => ?_⟩
  rcases h.row.2 with ⟨e, h1⟩ | ⟨g, c, cur, e, h1, h2, _⟩
  · exact absurd h1 h0
  · cases e
    cases hd
    exact ⟨Nat.le_trans hB h1, _, h2⟩
theorem row_drew {w : World} {g : Nat} {x : Option Obj} (h : w.heap[g]? = x) : w.drew.heap[g]? = x := h
theorem own_drew {w : World} {B : Nat} {e : TypeId} {K : IntKind} {o : Option Addr} {n cap : Nat} {xs : List Int} (h : Own w B e K o n cap xs) : Own w.drew B e K o n cap xs := ⟨h.row⟩
set_option maxRecDepth 100000 in
set_option maxHeartbeats 1600000 in
theorem mkCsi_any (p : Nat) (s : es.St) (cur : Array Value) (b : UInt8) (w : World) (h : PsAt w p s cur) :
    Calls Tryd.prog 49 #[.pointer (some ⟨p, 5, none⟩), .int .u8 b.toNat] w fun e w' => ∃ o cap, e = .returned (actV (es.csi s b) o cap) ∧ Act1 w' w.heap.size (es.csi s b) o cap ∧ Below w.heap.size w w' := by
  have c26 : w.cell? ⟨p, 26, none⟩ = some (.int .i64 (s.params.length : Nat)) := (h.c 26).trans h.is.cnt
  have hp := h.lt
  have hb1 : Below w.heap.size w (w.alloc (.cells #[.int .i64 0, .int .i32 0, .int .u8 0, .int .u8 0, .string ⟨#[]⟩, .slice none 0 0, .string ⟨#[]⟩] 45)).drew := ((Below.refl _ _).alloc (Nat.le_refl _) _).drew
  have hn := (h.below hb1 hp).params
  have hm := mins16 s.params.length
  have hm16 : min s.params.length 16 ≤ 16 := by omega
  have hlen : (es.csi s b).params.length = min s.params.length 16 := by show (s.params.take 16).length = _; rw [List.length_take, Nat.min_comm]
  generalize min s.params.length 16 = m at *
  have HN := Lib.hid hn
  have HP := Lib.hid (h.below hb1 hp)
  have HB := Lib.hid hb1
  have hmi : (m : Int) ≤ 17 := by omega
  have hm0 : (0 : Int) ≤ (m : Int) := by omega
  clear h hn hb1
  go_enter Tryd.func49, Tryd.ntmps49
  go_wp2_with fail
  go_region_with (go_at_call 59; refine (clone_any p 9 m 17 _ _ HN.out (by omega)).mono ?_; rintro e w1 ⟨o, c, rfl, hO, hB⟩)
  have hP1 := HP.out.below hB (show p < _ by simp; omega)
  have c6 : w1.cell? ⟨p, 6, none⟩ = some (.int .u8 s.priv) := (hP1.c 6).trans hP1.is.priv
  have c8 : w1.cell? ⟨p, 8, none⟩ = some (.string ⟨s.inter.toArray⟩) := (hP1.c 8).trans hP1.is.inter
  have hg : w1.heap[w.heap.size]? = some (.cells #[.int .i64 0, .int .i32 0, .int .u8 0, .int .u8 0, .string ⟨#[]⟩, .slice none 0 0, .string ⟨#[]⟩] 45 (0, 0)) := (hB.block _ (by simp)).trans (heap_alloc_new w _)
  have hpne : p ≠ w.heap.size := by omega
  have d0 : w1.cell? ⟨w.heap.size, 0, none⟩ = some (.int .i64 0) := (cell_of_heap hg).trans rfl
  have e0 : w1.frozen? ⟨w.heap.size, 0, none⟩ = false := by simp [World.frozen?, hg]
  have d1 : w1.cell? ⟨w.heap.size, 1, none⟩ = some (.int .i32 0) := (cell_of_heap hg).trans rfl
  have e1 : w1.frozen? ⟨w.heap.size, 1, none⟩ = false := by simp [World.frozen?, hg]
  have d2 : w1.cell? ⟨w.heap.size, 2, none⟩ = some (.int .u8 0) := (cell_of_heap hg).trans rfl
  have e2 : w1.frozen? ⟨w.heap.size, 2, none⟩ = false := by simp [World.frozen?, hg]
  have d3 : w1.cell? ⟨w.heap.size, 3, none⟩ = some (.int .u8 0) := (cell_of_heap hg).trans rfl
  have e3 : w1.frozen? ⟨w.heap.size, 3, none⟩ = false := by simp [World.frozen?, hg]
  have d4 : w1.cell? ⟨w.heap.size, 4, none⟩ = some (.string ⟨#[]⟩) := (cell_of_heap hg).trans rfl
  have e4 : w1.frozen? ⟨w.heap.size, 4, none⟩ = false := by simp [World.frozen?, hg]
  have d5 : w1.cell? ⟨w.heap.size, 5, none⟩ = some (.slice none 0 0) := (cell_of_heap hg).trans rfl
  have e5 : w1.frozen? ⟨w.heap.size, 5, none⟩ = false := by simp [World.frozen?, hg]
  have d6 : w1.cell? ⟨w.heap.size, 6, none⟩ = some (.string ⟨#[]⟩) := (cell_of_heap hg).trans rfl
  have e6 : w1.frozen? ⟨w.heap.size, 6, none⟩ = false := by simp [World.frozen?, hg]
  have HO := Lib.hid hO
  have HB1 := Lib.hid hB
  have HG := Lib.hid hg
  clear hO hB hP1 hg c26
  obtain ⟨hg7, hk7⟩ := store7 HG.out (.int .i64 4) (.int .i32 0) (.int .u8 b.toNat) (.int .u8 s.priv) (.string ⟨s.inter.toArray⟩) (.slice o m c) (.string ⟨#[]⟩)
  have hO7 := HO.out.kept hk7 (fun a ha e => by have := (HO.out.lt a ha).1; simp at this; omega)
  have hB7 : Below w.heap.size w (((((((w1.setCell ⟨w.heap.size, 0, none⟩ (.int .i64 4)).setCell ⟨w.heap.size, 1, none⟩ (.int .i32 0)).setCell ⟨w.heap.size, 2, none⟩ (.int .u8 b.toNat)).setCell ⟨w.heap.size, 3, none⟩ (.int .u8 s.priv)).setCell ⟨w.heap.size, 4, none⟩ (.string ⟨s.inter.toArray⟩)).setCell ⟨w.heap.size, 5, none⟩ (.slice o m c)).setCell ⟨w.heap.size, 6, none⟩ (.string ⟨#[]⟩)) := HB.out.trans ((HB1.out.mono (by simp)).trans (hk7.below (Nat.le_trans (by simp) HB1.out.size) (fun k hk => by omega)))
  have H7 := Lib.hid (And.intro hg7 (And.intro hO7 hB7))
  clear hk7 hg7 hO7 hB7
  go_wp2_with fail
  go_region_with fail
  all_goals go_wp2_with fail
  all_goals
    refine bodyPost_ret (results_cell_row rfl _ _ w.heap.size 45 _ (0, 0) _ rfl (row_drew H7.out.1) Tryd.underlying45 rfl (by kernel_rfl)) rfl ?_
    refine ⟨o, c, ?_, act1_own (own_drew H7.out.2.1) (by simp) hlen, H7.out.2.2.drew⟩
    rw [← hlen]
    rfl
end Go.Proofs.YtijfpfkmfibjjaaDoor
