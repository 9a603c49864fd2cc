/- A clock's Drop of its one timer. -/
import Derived.Test.YtfelmnhhldgobaaTmStop
import Derived.Lib.SliceRun
namespace Go.Proofs.Ytfelmnhhldgobaa
open Go.RowKit
def tZ : List Value := [.int .i64 0, .int .i64 0, .int .i64 0, .int .i64 0]
theorem zero_t (w : World) : (zeroValue 70).run Try.prog w = .ok (.agg #[.int .i64 0, .int .i64 0, .int .i64 0, .int .i64 0]) w := by kernel_rfl
set_option maxRecDepth 100000 in
/-- clear(s), s one timer -/
theorem run_clear_t (w : World) (ty : TypeId) (b o c : Nat) (hc : ∀ j, j < 4 → (w.cell? ⟨b, o + j, none⟩).isSome = true) (hf : ∀ j, j < 4 → w.frozen? ⟨b, o + j, none⟩ = false) :
    (Builtin.clear_ #[63] ty #[.slice (some ⟨b, o, none⟩) 1 c]).run Try.prog w = .ok (.tuple #[]) (w.setCells b o tZ) := by
  have hst := run_storeCells_cells (P := Try.prog) b o tZ 0 w (fun j hj => by have h4 : j < 4 := hj; simp [hc j h4]) (fun j hj => by have h4 : j < 4 := hj; simp [hf j h4]) (by intro v hv'; simp [tZ] at hv'; rcases hv' with rfl | rfl | rfl | rfl <;> rfl)
  simp only [Nat.add_zero] at hst
  have hzc : (Builtin.zeroCells (Value.agg #[.int .i64 0, .int .i64 0, .int .i64 0, .int .i64 0]).cells 1).toList = tZ := by kernel_rfl
  simp [Builtin.clear_, run_underlying Try.underlying63, hzc, hst]
set_option maxRecDepth 100000 in
theorem run_ql0 (g n cap : Nat) (wx : World) : (Instr.slice 63 (.slice (some ⟨g, 0, none⟩) n cap) (some (.int .i64 0)) none none).run Try.prog wx = .ok (.slice (some ⟨g, 0, none⟩) n cap) wx := by
  rw [run_slice_l wx 63 (some ⟨g, 0, none⟩) n cap Try.underlying63 .i64 0 (by omega) (by omega)]
  have hz : (sizeOf (Try.prog.elem 63)).run Try.prog wx = .ok 4 wx := by kernel_rfl
  rw [hz]
  have e : (⟨g, 0, none⟩ : Addr).add 0 = ⟨g, 0, none⟩ := by unfold Addr.add; split <;> simp_all
  simp [Result.andThen, sliced, e]
theorem setZ {w : World} {g n cap : Nat} {l : List tm.T} (h : QIn w g n cap l) (B : Nat) (hB : B ≤ g) : TRow (w.setCells g 0 tZ) B (.slice (some ⟨g, 0, none⟩) 0 cap) [] ∧ Fr (fun k => k = g) w (w.setCells g 0 tZ) := by
  obtain ⟨cur, hg, hs, hc⟩ := h.at_
  have hcm := h.cm
  have e : w.setCells g 0 tZ = (((w.setCell ⟨g, 0, none⟩ (.int .i64 0)).setCell ⟨g, 1, none⟩ (.int .i64 0)).setCell ⟨g, 2, none⟩ (.int .i64 0)).setCell ⟨g, 3, none⟩ (.int .i64 0) := rfl
  rw [e]
  refine ⟨⟨rfl, .inr ⟨g, cap, _, rfl, hB, heap_setCell_same _ g 3 _ _ _ (heap_setCell_same _ g 2 _ _ _ (heap_setCell_same _ g 1 _ _ _ (heap_setCell_same w g 0 _ _ _ hg))), Nat.zero_le _, by unfold maxLen; omega, by simp [hs], by simp [tsC]⟩⟩, ?_⟩
  exact (((Fr.setCell (S := fun k => k = g) (Fr.refl _ w) ⟨g, 0, none⟩ _ (.inr rfl)).setCell ⟨g, 1, none⟩ _ (.inr rfl)).setCell ⟨g, 2, none⟩ _ (.inr rfl)).setCell ⟨g, 3, none⟩ _ (.inr rfl)
set_option maxRecDepth 100000 in
set_option maxHeartbeats 800000 in
theorem del1_any (g cap : Nat) (t : tm.T) (b : Nat) (x : Int) (w : World) (B : Nat) (hB : B ≤ g) (hq : QIn w g 1 cap [t]) (hb : w.cell? ⟨b, 0, none⟩ = some (.int .i64 x)) (hl : b < w.heap.size) (hx : t.owner = x) : Calls Try.prog 30 #[.slice (some ⟨g, 0, none⟩) 1 cap, .func (.func 31) #[] #[.pointer (some ⟨b, 0, none⟩)]] w fun e w' => e = .returned (.slice (some ⟨g, 0, none⟩) 0 cap) ∧ TRow w' B (.slice (some ⟨g, 0, none⟩) 0 cap) [] ∧ Fr (fun k => k = g) w w' := by
  have HI := Lib.hid (index_drop g 1 cap [t] b x w hq hb hl 0 (by unfold tm.find tm.hasOwner; rw [hx]; simp))
  have HQ := Lib.hid hq
  have hcm := hq.cm
  have hnc := hq.nc
  clear hq hb hl
  have hsl := fun wx => run_ql0 g 1 cap wx
  have hsh := fun wx => run_qh ⟨g, 0, none⟩ 1 cap 0 (by omega) wx
  go_enter Try.func30, Try.ntmps30
  go_wp2_with fail
  refine HI.out.mono ?_
  rintro e w2 ⟨rfl, hb2⟩
  have hq2 := HQ.out.keep (hb2.block _ HQ.out.lt)
  have HZ := Lib.hid (setZ hq2 B hB)
  have HF := Lib.hid (Fr.of_below hb2 (fun k => k = g))
  obtain ⟨d0, d1, d2, d3⟩ := hq2.cell (i := 0) (t := t) rfl
  simp only [Nat.zero_mul, Nat.zero_add] at d0 d1 d2 d3
  have hcl : ∀ ty, (Builtin.clear_ #[63] ty #[.slice (some ⟨g, 0, none⟩) 1 cap]).run Try.prog w2 = .ok (.tuple #[]) (w2.setCells g 0 tZ) := fun ty => run_clear_t w2 ty g 0 cap (fun j hj => by
    have : j = 0 ∨ j = 1 ∨ j = 2 ∨ j = 3 := by omega
    rcases this with rfl | rfl | rfl | rfl
    · simp [d0]
    · simp [d1]
    · simp [d2]
    · simp [d3]) (fun j _ => hq2.thaw _)
  have hgl := hq2.lt
  clear hq2 hb2 HI d0 d1 d2 d3
  go_wp2_with fail
  go_loopg [5, 6] 0 (fun gg s5 s6 wr => s5 = .int .i64 0 ∧ s6 = .int .i64 1 ∧ wr = w2)
  case atStart => exact ⟨rfl, (by first | rfl | (simp; done)), rfl⟩
  case round =>
    obtain ⟨rfl, rfl, rfl⟩ := hrel
    go_wp2_with fail
    go_ret
    exact ⟨rfl, HZ.out.1, HF.out.then HZ.out.2⟩
theorem CK.setV {w : World} {c g cap cap0 : Nat} {now last : Int} {l : List tm.T} {W : World} (h : CK w c now last (.slice (some ⟨g, 0, none⟩) 1 cap0) l) (hr : TRow W (c + 1) (.slice (some ⟨g, 0, none⟩) 0 cap) []) (hf : Fr (fun k => k = g) w W) (hcg : c < g) : W.heap[c]? = some (.cells #[.int .i64 now, .int .i64 last, .slice (some ⟨g, 0, none⟩) 1 cap0] 65 (0, 0)) ∧ CK (W.setCell ⟨c, 2, none⟩ (.slice (some ⟨g, 0, none⟩) 0 cap)) c now last (.slice (some ⟨g, 0, none⟩) 0 cap) [] := by
  have hck : W.heap[c]? = some (.cells #[.int .i64 now, .int .i64 last, .slice (some ⟨g, 0, none⟩) 1 cap0] 65 (0, 0)) := (hf.block c h.lt (by omega)).trans h.ck
  exact ⟨hck, heap_setCell_same W c 2 _ _ _ hck, own_keep hr fun g _ hB _ _ _ => Below.heap_setCell _ _ _ g (by simp only; omega)⟩
set_option maxRecDepth 100000 in
set_option maxHeartbeats 800000 in
theorem drop1_any (c : Nat) (V : Value) (now last : Int) (t : tm.T) (x : Int) (w : World) (h : CK w c now last V [t]) (hx : t.owner = x) : Calls Try.prog 13 #[.pointer (some ⟨c, 0, none⟩), .int .i64 x] w fun e w' => e = .returned (.int .i64 1) ∧ CKR c V w w' now last [] := by
  have b1 := below_one w (.cells #[.int .i64 x] 3)
  have a1 := heap_alloc_new w (.cells #[.int .i64 x] 3)
  have h1 := h.below b1
  obtain ⟨-, -, c2⟩ := h1.cell
  have hlt := h1.lt
  obtain ⟨g, cap, rfl, hcg, hq⟩ := h1.hq (by simp)
  have HD := Lib.hid (del1_any g cap t w.heap.size x (w.alloc (.cells #[.int .i64 x] 3)) (c + 1) hcg hq.q ((cell_of_heap a1).trans rfl) (heap_lt a1) hx)
  have HH := Lib.hid (And.intro h1 (And.intro b1 hcg))
  clear h a1 hq
  go_enter Try.func13, Try.ntmps13
  go_upto_region 1 with fail
  obtain ⟨W, hW⟩ : ∃ W, w.alloc (.cells #[.int .i64 x] 3) = W := ⟨_, rfl⟩
  change Code.wp _ _ _ _ (w.alloc (.cells #[.int .i64 x] 3))
  rw [hW] at HD HH c2 hlt ⊢
  clear hW b1 h1
  go_wp2_with fail
  refine HD.out.mono ?_
  rintro e w2 ⟨rfl, hr2, hf2⟩
  have HS := Lib.hid (CK.setV HH.out.1 hr2 hf2 hcg)
  have HF : Hid (Fr (OwnC c (.slice (some ⟨g, 0, none⟩) 1 cap)) w (w2.setCell ⟨c, 2, none⟩ (.slice (some ⟨g, 0, none⟩) 0 cap))) := Lib.hid ((((Fr.of_below HH.out.2.1 _).then (fr_g_own hf2))).setCell _ _ (.inr (.inl rfl)))
  clear hr2 hf2 c2 hlt HD
  have c2 : w2.cell? ⟨c, 2, none⟩ = some (.slice (some ⟨g, 0, none⟩) 1 cap) := (cell_of_heap HS.out.1).trans rfl
  have f2 := thaw (k := 2) HS.out.1
  have hlt := heap_lt HS.out.1
  go_upto_region 3 with fail
  obtain ⟨W3, hW⟩ : ∃ W, w2.setCell ⟨c, 2, none⟩ (.slice (some ⟨g, 0, none⟩) 0 cap) = W := ⟨_, rfl⟩
  change Code.wp _ _ _ _ (w2.setCell ⟨c, 2, none⟩ (.slice (some ⟨g, 0, none⟩) 0 cap))
  rw [hW] at HS HF ⊢
  clear hW c2 f2 hlt
  have hlt := HS.out.2.lt
  have HI := Lib.hid (hinit_any c now last _ [] W3 HS.out.2 (by simp))
  go_wp2_with fail
  refine HI.out.mono ?_
  rintro e w4 ⟨rfl, V4, h4, f4, o4⟩
  have c4 := h4.cell.2.2
  obtain ⟨oV, cV, rfl⟩ := h4.slice
  have hi0 : tm.init [] = [] := rfl
  rw [hi0] at h4 c4
  have hl4 := h4.lt
  have HZ : Hid (CKR c (.slice (some ⟨g, 0, none⟩) 1 cap) w w4 now last []) := Lib.hid ⟨_, h4, HF.out.trans f4 (fun k _ y => by
    rcases y with rfl | y
    · exact .inl rfl
    · exact .inr y), fun y hy => by
    rcases o4 y hy with a | a
    · rcases a with rfl | a
      · exact .inl (.inl rfl)
      · exact .inl (.inr a)
    · exact .inr (Nat.le_trans HF.out.size a)⟩
  rw [List.length_nil] at c4
  clear h4 f4 o4 HI hlt
  go_wp2_with fail
  go_ret
  exact ⟨rfl, HZ.out⟩
end Go.Proofs.Ytfelmnhhldgobaa
