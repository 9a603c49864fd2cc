/- CheckEffects: the walk. -/
import Derived.Test.YtibpbnffennmeaaDoorCkRefE
namespace Go.Proofs.YtibpbnffennmeaaDoor
open Go.RowKit
/-- a module's box and its parts, in a memory behind the first one -/
structure MB (w W : World) (p : Nat) (m : md.Mod) (VD VF : Value) : Prop where
  box : W.heap[p]? = some (modB m.mem VD VF)
  parts : ModIn W (fun k => k < w.heap.size) VD VF m
  bel : Below w.heap.size w W
theorem MB.next {w W W' : World} {p : Nat} {m : md.Mod} {VD VF : Value} (h : MB w W p m VD VF) (hb : Below W.heap.size W W') : MB w W' p m VD VF :=
  ⟨(hb.block _ (heap_lt h.box)).trans h.box, h.parts.below hb, h.bel.trans (hb.mono h.bel.size)⟩
theorem MB.drew {w W : World} {p : Nat} {m : md.Mod} {VD VF : Value} (h : MB w W p m VD VF) : MB w W.drew p m VD VF := ⟨h.box, h.parts.below (below_dN (Below.refl _ _) 1), below_dN h.bel 1⟩
set_option maxRecDepth 100000 in
set_option maxHeartbeats 3200000 in
theorem effects_any (m : md.Mod) (VD VF : Value) (f op n : Int) (w : World) (ht : HT w) (h : ModIn w (fun k => k < w.heap.size) VD VF m) (_hi : md.fnsI m.funcs) (_hn : md.i64 n) :
    Calls Tryd.prog 4 #[modV m VD VF, .int .i64 f, .int .i64 op, .int .i64 n] w fun e w' => e = .returned (.bool true) ∧ Below w.heap.size w w' := by
  obtain ⟨od, cd, of, cf, rfl, rfl, hd1, hd2, hf1, hf2⟩ := h.slices
  have hb1 := below_one w (modB m.mem (.slice od m.data.length cd) (.slice of m.funcs.length cf))
  have HM1 := Lib.hid (show MB w (w.alloc (modB m.mem (.slice od m.data.length cd) (.slice of m.funcs.length cf))) w.heap.size m _ _ from ⟨heap_alloc_new w _, h.below hb1, hb1⟩)
  have HTT := Lib.hid (fun (W : World) (hb : Below w.heap.size w W) => ht.below hb)
  clear h hb1 hd1 hd2 ht
  go_enter Tryd.func4, Tryd.ntmps4
  go_upto_region 1 with fail
  generalize w.alloc (modB m.mem (.slice od m.data.length cd) (.slice of m.funcs.length cf)) = W1 at *
  have HAL := Lib.hid (alive13_any W1 (HTT.out W1 HM1.out.bel))
  go_wp2_with fail
  refine HAL.out.mono ?_
  rintro e w2 ⟨rfl, hb2⟩
  have HM2 := Lib.hid (HM1.out.next hb2)
  clear hb2 HAL HM1
  have z2 : w2.cell? ⟨w.heap.size, 2, none⟩ = some (.slice of m.funcs.length cf) := (cell_of_heap HM2.out.box).trans rfl
  have hlz := heap_lt HM2.out.box
  go_upto_region 4 with fail
  clear z2 hlz
  go_loopg [22] m.funcs.length (fun gg s22 wr => ∃ j : Nat, s22 = .int .i64 j ∧ j ≤ m.funcs.length ∧ m.funcs.length - j ≤ gg ∧ Hid (MB w wr w.heap.size m (.slice od m.data.length cd) (.slice of m.funcs.length cf)))
  case atStart => exact ⟨0, rfl, Nat.zero_le _, by omega, HM2⟩
  case round =>
    clear HM2
    obtain ⟨j, rfl, hj, hgg, HA⟩ := hrel
    by_cases hlt : j < m.funcs.length
    case pos =>
      have hji : (j : Int) < (m.funcs.length : Int) := by omega
      obtain ⟨b, off, oc, cc, rfl, -, hlb, p0, p1, p2, p3, -⟩ := FnsIn.cell HA.out.parts.fns j hlt
      generalize (m.funcs[j]'hlt) = F at *
      obtain ⟨P0, P1, P2, cd0⟩ := F
      dsimp only at p0 p1 p2 p3
      generalize cd0.length = nc0 at *
      have hb4 := below_one wr (.cells #[.int .i64 P0, .int .i64 P1, .int .i64 P2, .slice oc nc0 cc] 42)
      have HN4 := Lib.hid (heap_alloc_new wr (.cells #[.int .i64 P0, .int .i64 P1, .int .i64 P2, .slice oc nc0 cc] 42))
      have H4 := Lib.hid (HA.out.next hb4)
      clear hb4 HA
      go_upto_region 6 with fail
      generalize wr.alloc (.cells #[.int .i64 P0, .int .i64 P1, .int .i64 P2, .slice oc nc0 cc] 42) = w4 at *
      generalize wr.heap.size = q at *
      clear p0 p1 p2 p3 hlb
      have a0 : w4.cell? ⟨q, 0, none⟩ = some (.int .i64 P0) := (cell_of_heap HN4.out).trans rfl
      have a1 : w4.cell? ⟨q, 1, none⟩ = some (.int .i64 P1) := (cell_of_heap HN4.out).trans rfl
      have hla := heap_lt HN4.out
      by_cases h16 : j < 16
      · have h16i : (j : Int) < 16 := by omega
        by_cases hP0 : P0 < 0
        · go_wp2_with fail
          go_ret
          exact ⟨rfl, H4.out.bel⟩
        by_cases hP1 : P1 < 0
        · go_wp2_with fail
          go_ret
          exact ⟨rfl, H4.out.bel⟩
        go_wp2_with fail
        go_roundg (m.funcs.length - (j + 1))
        case measure => omega
        case rel => exact ⟨j + 1, by go_num, by omega, Nat.le_refl _, H4⟩
      · have h16i : ¬ (j : Int) < 16 := by omega
        go_wp2_with fail
        go_roundg (m.funcs.length - (j + 1))
        case measure => omega
        case rel => exact ⟨j + 1, by go_num, by omega, Nat.le_refl _, H4⟩
    case neg =>
      have hji : ¬ (j : Int) < (m.funcs.length : Int) := by omega
      have x0 : wr.cell? ⟨w.heap.size, 0, none⟩ = some (.int .i64 m.mem) := (cell_of_heap HA.out.box).trans rfl
      have x1 : wr.cell? ⟨w.heap.size, 1, none⟩ = some (.slice od m.data.length cd) := (cell_of_heap HA.out.box).trans rfl
      have x2 : wr.cell? ⟨w.heap.size, 2, none⟩ = some (.slice of m.funcs.length cf) := (cell_of_heap HA.out.box).trans rfl
      have hlx := heap_lt HA.out.box
      have HEF := Lib.hid (fun (W : World) (hb : MB w W w.heap.size m (.slice od m.data.length cd) (.slice of m.funcs.length cf)) => effect_any _ m _ _ f op n W hb.parts (HTT.out W hb.bel))
      have HRE := Lib.hid (fun (W : World) (hb : MB w W w.heap.size m (.slice od m.data.length cd) (.slice of m.funcs.length cf)) => reffect_any _ m _ _ f op n W hb.parts)
      generalize ck.effect m f ⟨op, n⟩ = R at *
      obtain ⟨r1, r2, r3⟩ := R
      go_upto_region 9 with fail
      go_cut [11, 12, 13] from 40 to 49 (fun s11 s12 s13 wx => s11 = .int .i64 r1 ∧ s12 = .int .i64 r2 ∧ s13 = .bool r3 ∧ Hid (MB w wx w.heap.size m (.slice od m.data.length cd) (.slice of m.funcs.length cf)))
      case first =>
        go_region_law (first
          | (go_simp; go_at_call 20; refine (ins13_any op n wr.drew).mono ?_; rintro e w5 ⟨rfl, hb5⟩; have HQ := Lib.hid (HA.out.drew.next hb5); have y0 : w5.cell? ⟨w.heap.size, 0, none⟩ = some (.int .i64 m.mem) := (cell_of_heap HQ.out.box).trans rfl; have y1 : w5.cell? ⟨w.heap.size, 1, none⟩ = some (.slice od m.data.length cd) := (cell_of_heap HQ.out.box).trans rfl; have y2 : w5.cell? ⟨w.heap.size, 2, none⟩ = some (.slice of m.funcs.length cf) := (cell_of_heap HQ.out.box).trans rfl; have hly := heap_lt HQ.out.box; clear hb5)
          | (go_simp; go_at_call 19; refine (HEF.out _ HQ.out).mono ?_; rintro e w6 ⟨rfl, hb6⟩; have HQ3 := Lib.hid (HQ.out.next hb6); clear hb6))
        all_goals
          go_wp2_with fail
          go_meet
          exact ⟨rfl, rfl, rfl, HQ3⟩
      case rest =>
      obtain ⟨rfl, rfl, rfl, HQ⟩ := hcut
      clear x0 x1 x2 hlx HA HEF
      generalize wc = wd at *
      have x0 : wd.cell? ⟨w.heap.size, 0, none⟩ = some (.int .i64 m.mem) := (cell_of_heap HQ.out.box).trans rfl
      have x1 : wd.cell? ⟨w.heap.size, 1, none⟩ = some (.slice od m.data.length cd) := (cell_of_heap HQ.out.box).trans rfl
      have x2 : wd.cell? ⟨w.heap.size, 2, none⟩ = some (.slice of m.funcs.length cf) := (cell_of_heap HQ.out.box).trans rfl
      have hlx := heap_lt HQ.out.box
      go_upto_region 10 with fail
      go_cut [14, 15, 16] from 50 to 59 (fun s14 s15 s16 wx => s14 = .int .i64 r1 ∧ s15 = .int .i64 r2 ∧ s16 = .bool r3 ∧ Hid (MB w wx w.heap.size m (.slice od m.data.length cd) (.slice of m.funcs.length cf)))
      case first =>
        go_region_law (first
          | (go_simp; go_at_call 20; refine (ins13_any op n wd.drew).mono ?_; rintro e w5 ⟨rfl, hb5⟩; have HQ2 := Lib.hid (HQ.out.drew.next hb5); have y0 : w5.cell? ⟨w.heap.size, 0, none⟩ = some (.int .i64 m.mem) := (cell_of_heap HQ2.out.box).trans rfl; have y1 : w5.cell? ⟨w.heap.size, 1, none⟩ = some (.slice od m.data.length cd) := (cell_of_heap HQ2.out.box).trans rfl; have y2 : w5.cell? ⟨w.heap.size, 2, none⟩ = some (.slice of m.funcs.length cf) := (cell_of_heap HQ2.out.box).trans rfl; have hly := heap_lt HQ2.out.box; clear hb5)
          | (go_simp; go_at_call 21; refine (HRE.out _ HQ2.out).mono ?_; rintro e w6 ⟨rfl, hb6⟩; have HQ3 := Lib.hid (HQ2.out.next hb6); clear hb6))
        all_goals
          go_wp2_with fail
          go_meet
          exact ⟨rfl, rfl, rfl, HQ3⟩
      case rest =>
      obtain ⟨rfl, rfl, rfl, HZ⟩ := hcut
      clear x0 x1 x2 hlx HQ HRE
      go_wp2_with fail
      go_ret
      exact ⟨rfl, HZ.out.bel⟩
end Go.Proofs.YtibpbnffennmeaaDoor
