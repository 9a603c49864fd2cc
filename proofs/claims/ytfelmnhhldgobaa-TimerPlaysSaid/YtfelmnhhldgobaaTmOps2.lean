/- container/heap's Push, Pop, Remove, Init over a clock. -/
import Derived.Test.YtfelmnhhldgobaaTmOps
namespace Go.Proofs.Ytfelmnhhldgobaa
open Go.RowKit
theorem fr_g_own {c g n cap : Nat} {w w' : World} (h : Fr (fun k => k = g) w w') : Fr (OwnC c (.slice (some ⟨g, 0, none⟩) n cap)) w w' := h.wider fun _ _ e => .inr (by rw [e]; rfl)
theorem CKR.of_hq {w w1 w' : World} {c g n cap : Nat} {now last : Int} {V : Value} {l : List tm.T} (h : HQ w' c g n cap now last l) (hc : c < g) (hf : Fr (OwnC c V) w w1) (hg : V.ownBlock = some g ∨ w.heap.size ≤ g) (hf2 : Fr (fun k => k = g ∨ k = c) w1 w') : CKR c V w w' now last l := by
  refine ⟨_, h.to_ck hc, hf.trans hf2 fun k hk e => ?_, fun y hy => ?_⟩
  · rcases e with rfl | rfl
    · rcases hg with e | e
      · exact .inr e
      · omega
    · exact .inl rfl
  · rcases hy with rfl | hy
    · exact .inl (.inl rfl)
    · obtain rfl : g = y := Option.some.inj hy
      exact hg.imp .inr id
theorem qlen_any (o : Option Addr) (n cap : Nat) (w : World) : Calls Try.prog 78 #[.slice o n cap] w fun e w' => e = .returned (.int .i64 n) ∧ w' = w := by
  go_enter Try.func78, Try.ntmps78
  go_wp2_with fail
  go_ret
  exact ⟨rfl, rfl⟩
set_option maxRecDepth 100000 in
set_option maxHeartbeats 1600000 in
theorem hpush_any (c : Nat) (now last : Int) (V : Value) (l : List tm.T) (t : tm.T) (w : World) (h : CK w c now last V l) (hl : l.length ≤ 900) : Calls Try.prog 24 #[.iface 68 (.pointer (some ⟨c, 2, none⟩)), .iface 70 (tV t)] w fun e w' => e = .returned (.tuple #[]) ∧ CKR c V w w' now last (tm.push l t) := by
  have mp := fun w => meth_push c w
  have HP := Lib.hid (qpush_any c now last V l t w h (by omega))
  clear h
  go_enter Try.func24, Try.ntmps24
  go_wp2_with fail
  refine HP.out.mono ?_
  rintro e w1 ⟨rfl, V1, h1, f1, o1⟩
  obtain ⟨g, cap, rfl, hcg, hq⟩ := h1.hq (by simp)
  have hlen : (l ++ [t]).length = l.length + 1 := by simp
  rw [hlen] at hq
  have c2 := hq.cell.2.2
  have ml := meth_len c2
  have HL := Lib.hid (qlen_any (some ⟨g, 0, none⟩) (l.length + 1) cap w1)
  have HU := Lib.hid (up_any c g (l.length + 1) cap now last l.length (l.length + 1) (l ++ [t]) w1 hq (by omega) (by omega))
  have HF := Lib.hid (And.intro f1 (And.intro hcg (o1 g (.inr rfl))))
  have e1 : wrap64 (((l.length + 1 : Nat) : Int) - 1) = (l.length : Int) := by unfold wrap64; omega
  have e2 : (((l.length + 1 : Nat) : Int) - 1) = (l.length : Int) := by omega
  have e3 : wrap64 ((l.length : Int) + 1 - 1) = (l.length : Int) := by unfold wrap64; omega
  clear h1 f1 o1 hcg hq HP mp hlen
  go_wp2_with fail
  refine HL.out.mono ?_
  rintro e w' ⟨rfl, hw⟩
  replace hw := hw.symm
  subst hw
  go_wp2_with fail
  refine HU.out.mono ?_
  rintro e w3 ⟨rfl, hq3, f3⟩
  have HZ : Hid (CKR c V w w3 now last (tm.push l t)) := Lib.hid (CKR.of_hq hq3 HF.out.2.1 HF.out.1 (HF.out.2.2.elim (fun x => x.elim (fun e => absurd e (by have := HF.out.2.1; omega)) .inl) .inr) (f3.wider fun _ _ e => .inl e))
  clear hq3 f3
  go_wp2_with fail
  go_end0
  exact ⟨rfl, HZ.out⟩
set_option maxRecDepth 100000 in
theorem run_qh (o : Addr) (n cap k : Nat) (hk : k ≤ cap) (wx : World) : (Instr.slice 63 (.slice (some o) n cap) none (some (.int .i64 (k : Int))) none).run Try.prog wx = .ok (.slice (some o) k cap) wx := by
  rw [run_slice_h wx 63 (some o) n cap Try.underlying63 .i64 k (by omega) (by omega)]
  have hz : (sizeOf (Try.prog.elem 63)).run Try.prog wx = .ok 4 wx := by kernel_rfl
  rw [hz]
  have e : o.add 0 = o := by unfold Addr.add; split <;> simp_all
  simp [Result.andThen, sliced, e]
set_option maxRecDepth 100000 in
set_option maxHeartbeats 1600000 in
theorem qpop_any (c g k cap : Nat) (now last : Int) (m : List tm.T) (w : World) (h : HQ w c g (k + 1) cap now last m) (hk : k ≤ 1000) : Calls Try.prog 81 #[.pointer (some ⟨c, 2, none⟩)] w fun e w' => e = .returned (.iface 70 (tV (tm.ix m k))) ∧ HQ w' c g k cap now last (m.take k) ∧ Fr (fun y => y = g ∨ y = c) w w' := by
  have c2 := h.cell.2.2
  obtain ⟨d0, d1, d2, d3⟩ := h.q.cell (tm.ix_at (l := m) (i := k) (by rw [h.q.len]; omega))
  have hcl := heap_lt h.ck
  have hgl := h.q.lt
  have e1 : wrap64 (((k + 1 : Nat) : Int) - 1) = (k : Int) := by unfold wrap64; omega
  have e3 : wrap64 ((k : Int) + 1 - 1) = (k : Int) := by unfold wrap64; omega
  have hq := fun wx => run_qh ⟨g, 0, none⟩ (k + 1) cap k (by have := h.q.nc; omega) wx
  generalize tm.ix m k = t at *
  have hb := below_one w (tO t)
  have hh := h.below hb
  have HX : Hid ((w.alloc (tO t)).heap[w.heap.size]? = some (tO t) ∧ (w.alloc (tO t)).heap[c]? = some (.cells #[.int .i64 now, .int .i64 last, .slice (some ⟨g, 0, none⟩) (k + 1) cap] 65 (0, 0))) := Lib.hid ⟨heap_alloc_new w _, hh.ck⟩
  have HH := Lib.hid (And.intro hh (Fr.of_below hb (fun y => y = g ∨ y = c)))
  have HN := Lib.hid h.ne
  clear h hb hh
  go_enter Try.func81, Try.ntmps81
  go_upto_region 3 with fail
  obtain ⟨W, hW⟩ : ∃ W, w.alloc (tO t) = W := ⟨_, rfl⟩
  rw [hW] at HX HH
  change Code.wp _ _ _ _ (w.alloc (tO t))
  rw [hW]
  clear hW d0 d1 d2 d3 c2 hcl hgl
  have c2 : W.cell? ⟨c, 2, none⟩ = some (.slice (some ⟨g, 0, none⟩) (k + 1) cap) := (cell_of_heap HX.out.2).trans rfl
  have f2 : W.frozen? ⟨c, 2, none⟩ = false := thaw HX.out.2
  have x0 : W.cell? ⟨w.heap.size, 0, none⟩ = some (.int .i64 t.id) := (cell_of_heap HX.out.1).trans rfl
  have x1 : W.cell? ⟨w.heap.size, 1, none⟩ = some (.int .i64 t.owner) := (cell_of_heap HX.out.1).trans rfl
  have x2 : W.cell? ⟨w.heap.size, 2, none⟩ = some (.int .i64 t.due) := (cell_of_heap HX.out.1).trans rfl
  have x3 : W.cell? ⟨w.heap.size, 3, none⟩ = some (.int .i64 t.every) := (cell_of_heap HX.out.1).trans rfl
  have hcl := heap_lt HX.out.2
  have hxl := heap_lt HX.out.1
  have hcx : c ≠ w.heap.size := fun e => by
    have a := HX.out.1
    rw [← e, HX.out.2] at a
    injection a with a
    injection a with a b
    injection a with a
    simp at a
  have HZ : Hid (HQ (W.setCell ⟨c, 2, none⟩ (.slice (some ⟨g, 0, none⟩) k cap)) c g k cap now last (m.take k) ∧ Fr (fun y => y = g ∨ y = c) w (W.setCell ⟨c, 2, none⟩ (.slice (some ⟨g, 0, none⟩) k cap))) := Lib.hid ⟨⟨heap_setCell_same W c 2 _ _ _ HX.out.2, (HH.out.1.q.take k (by omega)).keep (Below.heap_setCell _ _ _ g (Ne.symm HN.out)), HN.out⟩, HH.out.2.setCell _ _ (.inr (.inr rfl))⟩
  go_wp2_with fail
  go_ret
  exact ⟨rfl, HZ.out⟩
end Go.Proofs.Ytfelmnhhldgobaa
