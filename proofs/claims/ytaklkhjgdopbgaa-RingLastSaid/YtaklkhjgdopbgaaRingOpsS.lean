/- What a ring's calls do, at the element type string. -/
import Derived.Test.YtaklkhjgdopbgaaRingMem
import Derived.Test.YtaklkhjgdopbgaaRows
import Derived.WalkSpells
import Derived.WalkLawsBesides
import Derived.BigQuiet
import Derived.Deep.QuietTactic
import Derived.Deep.RegionHeld3
import Derived.Deep.RegionWith
import Derived.Deep.LoopGhost
import Derived.Laws.OwnMore
namespace Go.Proofs.Ytaklkhjgdopbgaa
namespace rS
open Go.RowKit

/-- what a value of string looks like -/
def Fm (u : Value) : Prop := ∃ z : ByteArray, u = .string z
theorem fm (z : ByteArray) : Fm (Value.string z) := ⟨z, rfl⟩
theorem fm_snoc {ps : List Value} {v : Value} (h : ∀ u ∈ ps, Fm u) (hv : Fm v) : ∀ u ∈ ps ++ [v], Fm u := by
  intro u hu
  rcases List.mem_append.1 hu with h' | h'
  · exact h u h'
  · obtain rfl := List.mem_singleton.1 h'; exact hv
theorem fm_set {ps : List Value} {v : Value} {i : Nat} (h : ∀ u ∈ ps, Fm u) (hv : Fm v) : ∀ u ∈ ps.set i v, Fm u := by
  intro u hu
  rcases List.mem_or_eq_of_mem_set hu with h' | rfl
  · exact h u h'
  · exact hv
/-- a ring of string -/
abbrev Is (w : World) (b : Nat) (pv : Value) (L : List Value) (most gone : Nat) : Prop := RingIs 68 9 Fm (Value.string ByteArray.empty) w b pv L most gone

theorem ret_int {k : IntKind} {a b : Int} (h : a = b) : Ending.returned (.int k a) = .returned (.int k b) := by rw [h]

set_option maxHeartbeats 400000 in
theorem place_any (b : Nat) (pv : Value) (first n most gone i : Nat) (w : World) (h : w.heap[b]? = some (ringObj 68 pv first n most gone)) (hm : 0 < most) (hm2 : most ≤ 1000) (hf : first ≤ 1000) (hi : i ≤ 1000) :
    Calls Try.prog 38 #[.pointer (some ⟨b, 0, none⟩), .int .i64 (i : Int)] w fun e w' => e = .returned (.int .i64 (((first + i) % most : Nat) : Int)) ∧ ∃ nq, w' = w.drewN nq := by
  obtain ⟨c0, c1, c2, c3, c4, f0, f1, f2, f3, f4, hlt⟩ := ringCells h
  clear h
  have e1 : IntKind.i64.wrap ((first : Int) + (i : Int)) = (first : Int) + (i : Int) := IntWalk.i64_in _ (by omega)
  have e2 : ((first : Int) + (i : Int)).tmod (most : Int) = (((first + i) % most : Nat) : Int) := by
    rw [Int.tmod_eq_emod_of_nonneg (by omega)]; simp
  have e3 : ((most : Int) == 0) = false := by simp; omega
  go_enter Try.func38, Try.ntmps38
  go_wp2_with fail
  go_quiet (fail)
  go_wp2
  go_ret
  exact ⟨ret_int (by simp), nq, rfl⟩

/-- how many may be -/
def top (m : Int) : Nat := (max 0 (min m 1000)).toNat
theorem top_le (m : Int) : top m ≤ 1000 := by unfold top; omega
theorem ret_ptr_top {w : World} {x : Int} {m : Int} (hx : x = (top m : Int)) : (w.alloc (.cells #[.slice none 0 0, .int .i64 0, .int .i64 0, .int .i64 x, .int .i64 0] 68)) = w.alloc (ringObj 68 (.slice none 0 0) 0 0 (top m) 0) := by
  rw [hx]; rfl
theorem ring_new (w : World) (m : Int) : Is (w.alloc (ringObj 68 (.slice none 0 0) 0 0 (top m) 0)) w.heap.size (.slice none 0 0) [] (top m) 0 :=
  ⟨[], 0, ⟨heap_alloc_new w _, World.ownsRow_nil _ _ _ _, by simp, rg.fit_new (top_le m)⟩, rfl⟩

theorem new_end {w w' : World} {m x : Int} (hx : x = (top m : Int)) (hw : w' = w.alloc (.cells #[.slice none 0 0, .int .i64 0, .int .i64 0, .int .i64 x, .int .i64 0] 68)) : Is w' w.heap.size (.slice none 0 0) [] (top m) 0 ∧ Below w.heap.size w w' := by
  rw [hw, ret_ptr_top hx]
  exact ⟨ring_new w m, (Below.refl _ _).alloc (Nat.le_refl _) _⟩
set_option maxHeartbeats 400000 in
theorem new_any (m : Int) (w : World) :
    Calls Try.prog 22 #[.int .i64 m] w fun e w' => e = .returned (.pointer (some ⟨w.heap.size, 0, none⟩)) ∧ Is w' w.heap.size (.slice none 0 0) [] (top m) 0 ∧ Below w.heap.size w w' := by
  go_enter Try.func22, Try.ntmps22
  go_wp2_with fail
  all_goals
    go_ret
    exact ⟨rfl, new_end (by unfold top; omega) rfl⟩
set_option maxHeartbeats 400000 in
theorem len_any (b : Nat) (pv : Value) (first n most gone : Nat) (w : World) (h : RingCells w b pv first n most gone) :
    Calls Try.prog 24 #[.pointer (some ⟨b, 0, none⟩)] w fun e w' => e = .returned (.int .i64 (n : Int)) ∧ w = w' := by
  obtain ⟨c0, c1, c2, c3, c4, f0, f1, f2, f3, f4, hlt⟩ := h
  go_enter Try.func24, Try.ntmps24
  go_wp2_with fail
  go_ret
  exact ⟨rfl, rfl⟩
set_option maxHeartbeats 400000 in
theorem gone_any (b : Nat) (pv : Value) (first n most gone : Nat) (w : World) (h : RingCells w b pv first n most gone) :
    Calls Try.prog 25 #[.pointer (some ⟨b, 0, none⟩)] w fun e w' => e = .returned (.int .i64 (gone : Int)) ∧ w = w' := by
  obtain ⟨c0, c1, c2, c3, c4, f0, f1, f2, f3, f4, hlt⟩ := h
  go_enter Try.func25, Try.ntmps25
  go_wp2_with fail
  go_ret
  exact ⟨rfl, rfl⟩

theorem infoE : (Try.prog.info? 9).map (fun i => (i.zero, i.size, i.bytes)) = some (some (Value.string ByteArray.empty), 1, 16) := by kernel_rfl

set_option maxHeartbeats 400000 in
theorem add_grow (b : Nat) (pv : Value) (ps : List Value) (first n most gone : Nat) (z : ByteArray) (w : World) (h : RingAt 68 9 Fm w b pv ps first n most gone) (hn : ps.length = n) (hlt : n < most) :
    Calls Try.prog 37 #[.pointer (some ⟨b, 0, none⟩), (Value.string z)] w fun e w' => e = .returned (.tuple #[]) ∧ ∃ pv', RingAt 68 9 Fm w' b pv' (ps ++ [(Value.string z)]) first (n + 1) most gone ∧ Kept w w' (Tch b pv) ∧ Moved w pv pv' := by
  obtain ⟨i0, hi, hz0, hz1, hz2⟩ := info_parts infoE
  obtain ⟨hblk, hown, hel, hfit⟩ := h
  have hm := hfit.m_le
  rw [hn] at hown
  obtain ⟨ao, cap, rfl⟩ := own_slice hown
  obtain ⟨c0, c1, c2, c3, c4, f0, f1, f2, f3, f4, hb⟩ := ringCells hblk
  have HF := Lib.hid hfit; have HN := Lib.hid hn; have HE := Lib.hid hel
  clear hfit hn hel
  go_enter Try.func37, Try.ntmps37
  go_wp2_with fail
  go_quiet (fail)
  go_wp2_with (at_builtin; refine wpList_append_moved _ rfl _ _ 44 rfl (b + 1) 9 i0 (Value.string ByteArray.empty) 1 16 Try.underlying44 hi hz0 hz1 hz2 rfl (by decide) _ _ _ rfl (hown.alloc _) ⟨w.heap.size, 0, none⟩ 1 1 [(Value.string z)] rfl rfl ?c1 ?c2 ?c3 ?c4 ?c5 ?_)
  case c1 => exact cells_one_new (w.drewN nq) _ _
  case c2 => intro u hu; simp at hu; subst hu; rfl
  case c3 => unfold maxLen; omega
  case c4 => omega
  case c5 => simp; omega
  intro v' w1 hown1 hgrow1 hmov
  obtain ⟨ao', cap', rfl⟩ := own_slice hown1
  obtain ⟨hblk1, hk1⟩ := grow_ring hblk hown hgrow1
  have hpost := add_end (T := 68) (E := 9) (n := n) (ps' := ps ++ [(Value.string z)]) hblk1 (by rw [List.length_append, HN.out]; exact hown1) hk1 (fm_snoc HE.out (fm z)) (rg.push_append (d := (Value.string ByteArray.empty)) (Value.string z) HF.out HN.out.symm hlt).2.1 (fun k hk => (hmov k hk).imp id (fun h => by simp at h; omega))
  have HP := Lib.hid hpost; clear hpost
  obtain ⟨d0, d1, d2, d3, d4, e0, e1, e2, e3, e4, hb1⟩ := ringCells hblk1
  clear c0 c1 c2 c3 c4 f0 f1 f2 f3 f4 hblk1 hown1 hgrow1 hmov hblk hown
  go_wp2_with fail
  go_end0
  exact ⟨rfl, HP.out⟩

theorem cells_heap {w w' : World} (h : w'.heap = w.heap) {b : Nat} {pv : Value} {first n most gone : Nat} (H : RingCells w b pv first n most gone) : RingCells w' b pv first n most gone := by
  have hc : ∀ a, w'.cell? a = w.cell? a := fun a => by simp [World.cell?, h]
  have hf : ∀ a, w'.frozen? a = w.frozen? a := fun a => by simp [World.frozen?, h]
  obtain ⟨c0, c1, c2, c3, c4, f0, f1, f2, f3, f4, hb⟩ := H
  exact ⟨(hc _).trans c0, (hc _).trans c1, (hc _).trans c2, (hc _).trans c3, (hc _).trans c4, (hf _).trans f0, (hf _).trans f1, (hf _).trans f2, (hf _).trans f3, (hf _).trans f4, by rw [h]; exact hb⟩

set_option maxHeartbeats 800000 in
theorem add_set (b : Nat) (pv : Value) (ps : List Value) (first n most gone : Nat) (z : ByteArray) (w : World) (h : RingAt 68 9 Fm w b pv ps first n most gone) (hn : n < ps.length) :
    Calls Try.prog 37 #[.pointer (some ⟨b, 0, none⟩), (Value.string z)] w fun e w' => e = .returned (.tuple #[]) ∧ RingAt 68 9 Fm w' b pv (ps.set ((first + n) % most) (Value.string z)) first (n + 1) most gone ∧ Kept w w' (Tch b pv) := by
  obtain ⟨hblk, hown, hel, hfit⟩ := h
  have hm := hfit.m_le
  have hl := hfit.l_le
  have hf : first ≤ 1000 := by have := hfit.fm; omega
  have hplt := hfit.place_lt hn
  obtain ⟨g, cap, rfl, hbg, hgw, hnc, hcm⟩ := own_some hown (by omega)
  obtain ⟨c0, c1, c2, c3, c4, f0, f1, f2, f3, f4, hb⟩ := ringCells hblk
  have hpl := fun k => place_any b (.slice (some ⟨g, 0, none⟩) ps.length cap) first n most gone n (w.drewN k) hblk (by omega) hm hf (by omega)
  have hk : w.cell? ⟨g, (first + n) % most, none⟩ = some (ps.getD ((first + n) % most) (Value.string ByteArray.empty)) := own_cell hown hplt
  have hfr : w.frozen? ⟨g, (first + n) % most, none⟩ = false := hown.frozenAt _
  have hps := rg.push_set (d := (Value.string ByteArray.empty)) (Value.string z) hfit hn
  generalize (first + n) % most = P at *
  have hB := fun k => ringCells (heap_set_other (w.drewN k) ⟨g, P, none⟩ (Value.string z) (show b ≠ g by omega) hblk)
  have HE := Lib.hid (fun k x hx => set_end (F := Fm) (k := k) (Value.string z) (n + 1) hblk hown rfl (fm_set hel (fm z)) hps.2 x hx)
  have HB := Lib.hid hB; have HL := Lib.hid hpl
  clear hfit hel hown hpl hps hB
  have hne : ((n : Int) == (ps.length : Int)) = false := by simp; omega
  go_enter Try.func37, Try.ntmps37
  go_wp2_with fail
  go_quiet (fail)
  go_wp2_with fail
  go_region_with (go_at_call 38; refine (HL.out _).mono ?_; rintro e w' ⟨rfl, nq2, rfl⟩)
  all_goals
    obtain ⟨d0, d1, d2, d3, d4, e0, e1, e2, e3, e4, hb1⟩ := HB.out (nq + 1 + nq2)
    clear c0 c1 c2 c3 c4 f0 f1 f2 f3 f4 hblk hk hfr
    go_wp2
    go_end0
    exact ⟨rfl, HE.out _ _ (by omega)⟩
end rS
end Go.Proofs.Ytaklkhjgdopbgaa
