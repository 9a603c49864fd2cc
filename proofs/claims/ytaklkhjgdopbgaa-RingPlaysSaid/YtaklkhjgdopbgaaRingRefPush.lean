/- The document's Push on a plain list. -/
import Derived.Test.YtaklkhjgdopbgaaRingRef
namespace Go.Proofs.Ytaklkhjgdopbgaa
open Go.RowKit
attribute [local go_sem ↓ 10000] run_slo1

set_option maxRecDepth 100000 in
set_option maxHeartbeats 4000000 in
theorem refPush_any (o : Option Addr) (n c M g : Nat) (v : Int) (zs : List Int) (w : World) (hz : Ints w o n c zs) (hn : n ≤ 1000) (_hM : M ≤ 1000) (hg : g < 2305843009213693952) :
    Calls Try.prog 12 #[refV o n c M g, .int .i64 v] w fun e w' => ∃ o' c', (∀ a, o' = some a → w.heap.size ≤ a.block ∧ a.block < w'.heap.size) ∧ Below w.heap.size w w' ∧
      ((n < M ∧ e = .returned (.tuple #[refV o' (n + 1) c' M g, .int .i64 0, .bool false]) ∧ Ints w' o' (n + 1) c' (zs ++ [v])) ∨
       (M ≤ n ∧ e = .returned (.tuple #[refV o' n c' M (g + 1), .int .i64 ((zs ++ [v]).headD 0), .bool true]) ∧ Ints w' o' n c' (zs ++ [v]).tail)) := by
  obtain ⟨i0, hi, hz0, hz1, hz2⟩ := info_parts rI.infoE
  have hm : c ≤ 9223372036854775807 := hz.max
  have hle := hz.le
  have HZ := Lib.hid hz
  clear hz
  go_enter Try.func12, Try.ntmps12
  go_wp2_with fail
  have hb0 : (((w.alloc (boxObj (.slice o n c) M g)).alloc (boxObj (.slice none 0 0) 0 0)).alloc (.cells #[] 3)).heap[w.heap.size]? = some (boxObj (.slice o n c) M g) :=
    (Below.heap_alloc _ _ _ (by simp; omega)).trans ((Below.heap_alloc _ _ _ (by simp)).trans (heap_alloc_new w _))
  have hb1 : (((w.alloc (boxObj (.slice o n c) M g)).alloc (boxObj (.slice none 0 0) 0 0)).alloc (.cells #[] 3)).heap[w.heap.size + 1]? = some (boxObj (.slice none 0 0) 0 0) := by
    have h1 := heap_alloc_new (w.alloc (boxObj (.slice o n c) M g)) (boxObj (.slice none 0 0) 0 0)
    refine (Below.heap_alloc _ _ _ (by simp)).trans ?_
    simpa using h1
  have hbl : Below w.heap.size w (((w.alloc (boxObj (.slice o n c) M g)).alloc (boxObj (.slice none 0 0) 0 0)).alloc (.cells #[] 3)) := (((Below.refl _ _).alloc (Nat.le_refl _) _).alloc (by simp) _).alloc (by simp; omega) _
  have hown0 := World.ownsRow_made (base := w.heap.size + 2) (e := 3) (size := 1) ((w.alloc (boxObj (.slice o n c) M g)).alloc (boxObj (.slice none 0 0) 0 0)) #[] 0 (by simp) (by unfold maxLen; omega) (by simp)
  rw [show ((w.alloc (boxObj (.slice o n c) M g)).alloc (boxObj (.slice none 0 0) 0 0)).heap.size = w.heap.size + 2 by simp] at hown0
  have HO0 := Lib.hid hown0; clear hown0
  go_loopg [7, 8] n (fun gg s7 s8 wr => ∃ (k : Nat), s8 = .int .i64 k ∧ k ≤ n ∧ n - k ≤ gg ∧ Hid (wr.heap[w.heap.size]? = some (boxObj (.slice o n c) M g)) ∧ Hid (wr.heap[w.heap.size + 1]? = some (boxObj (.slice none 0 0) 0 0)) ∧ Hid (wr.ownsRow (w.heap.size + 2) 3 1 s7 k ((zs.map (Value.int .i64)).take k)) ∧ Below w.heap.size w wr)
  case atStart => exact ⟨0, rfl, Nat.zero_le _, by omega, Lib.hid hb0, Lib.hid hb1, Lib.hid HO0.out, hbl⟩
  case round =>
    obtain ⟨k, rfl, hk, hgg, HB0, HB1, HR, hbel⟩ := hrel
    clear hb0 hb1 hbl HO0
    obtain ⟨c0, c1, c2, f0, f1, f2, hlt0⟩ := boxCells HB0.out
    obtain ⟨d0, d1, d2, x0, x1, x2, hlt1⟩ := boxCells HB1.out
    obtain ⟨uo, uc, rfl⟩ := own_slice HR.out
    have hrl := HR.out.lt
    by_cases hlt : k < n
    · have hlen : k < zs.length := by rw [HZ.out.len]; exact hlt
      obtain ⟨vb, off, hob, hvb, hc⟩ := (HZ.out.below hbel).cell hlt
      have hnx := map_take_snoc zs k hlen
      generalize zs.getD k 0 = z at *
      have HNX := Lib.hid hnx; have HRL := Lib.hid hrl
      clear hnx hlen hrl
      subst hob
      have hki : ((k : Int) < (n : Int)) := by omega
      go_wp2_with (at_builtin; refine wpList_append_moved _ rfl _ _ 26 rfl (w.heap.size + 2) 3 i0 (Value.int .i64 0) 1 8 Try.underlying26 hi hz0 hz1 hz2 rfl (by decide) _ _ _ rfl (HR.out.alloc _) ⟨wr.heap.size, 0, none⟩ 1 1 [Value.int .i64 z] rfl rfl ?c1 ?c2 ?c3 ?c4 ?c5 ?_)
      case c1 => exact cells_one_new wr _ _
      case c2 => intro u hu; simp at hu; subst hu; rfl
      case c3 => unfold maxLen; omega
      case c4 => omega
      case c5 => simp; omega
      intro v' w4 hown4 hgrow4 hmov4
      obtain ⟨uo4, uc4, rfl⟩ := own_slice hown4
      have hk4 : Kept wr w4 (fun q => (Value.slice uo k uc).ownBlock = some q) := ((Kept.refl wr _).alloc _).grown hgrow4 (fun q hq _ => hq)
      have hb04 := hk4.same HB0.out (fun h => by have := (HRL.out _ h).1; omega)
      have hb14 := hk4.same HB1.out (fun h => by have := (HRL.out _ h).1; omega)
      have hbel4 := hbel.trans (hk4.below (by omega) (fun q hq => by have := (HRL.out q hq).1; omega))
      have hr4 : w4.ownsRow (w.heap.size + 2) 3 1 (.slice uo4 (k + 1) uc4) (k + 1) ((zs.map (Value.int .i64)).take (k + 1)) := by rw [HNX.out]; exact hown4
      have HB04 := Lib.hid hb04; have HB14 := Lib.hid hb14; have HR4 := Lib.hid hr4
      clear hown4 hgrow4 hmov4 hk4 hb04 hb14 hr4 c0 c1 c2 f0 f1 f2 d0 d1 d2 x0 x1 x2 hc
      go_wp2_with fail
      go_roundg (n - (k + 1))
      case measure => omega
      case rel => exact ⟨k + 1, by go_num, by omega, Nat.le_refl _, HB04, HB14, HR4, hbel4⟩
    · obtain rfl : k = n := by omega
      have HRL := Lib.hid hrl
      clear hrl hgg
      go_wp2_with (at_builtin; refine wpList_append_moved _ rfl _ _ 26 rfl (w.heap.size + 2) 3 i0 (Value.int .i64 0) 1 8 Try.underlying26 hi hz0 hz1 hz2 rfl (by decide) _ _ _ rfl (HR.out.alloc _) ⟨wr.heap.size, 0, none⟩ 1 1 [Value.int .i64 v] rfl rfl ?c1 ?c2 ?c3 ?c4 ?c5 ?_)
      case c1 => exact cells_one_new wr _ _
      case c2 => intro u hu; simp at hu; subst hu; rfl
      case c3 => unfold maxLen; omega
      case c4 => omega
      case c5 => simp; omega
      intro v' w4 hown4 hgrow4 hmov4
      have hk4 : Kept wr w4 (fun q => (Value.slice uo k uc).ownBlock = some q) := ((Kept.refl wr _).alloc _).grown hgrow4 (fun q hq _ => hq)
      have hb04 := hk4.same HB0.out (fun h => by have := (HRL.out _ h).1; omega)
      have hb14 := hk4.same HB1.out (fun h => by have := (HRL.out _ h).1; omega)
      have hbel4 := hbel.trans (hk4.below (by omega) (fun q hq => by have := (HRL.out q hq).1; omega))
      rw [show (zs.map (Value.int .i64)).take k ++ [Value.int .i64 v] = (zs ++ [v]).map (Value.int .i64) by rw [List.take_of_length_le (by rw [List.length_map, HZ.out.len]; exact Nat.le_refl _)]; simp] at hown4
      obtain ⟨ug, uc4, rfl, hug, hugs, hucl, hucm⟩ := own_some hown4 (by omega)
      have hui : Ints w4 (some ⟨ug, 0, none⟩) (k + 1) uc4 (zs ++ [v]) := by
        obtain ⟨oo, cc, he, hi⟩ := Ints.of_own hown4
        simp at he
        obtain ⟨rfl, rfl⟩ := he
        exact hi
      obtain ⟨e0, e1, e2, y0, y1, y2, hl0⟩ := boxCells hb04
      obtain ⟨p0, p1, p2, q0, q1, q2, hl1⟩ := boxCells hb14
      have HB04 := Lib.hid hb04; have HB14 := Lib.hid hb14; have HU := Lib.hid hui; have HBE := Lib.hid hbel4
      clear hown4 hgrow4 hmov4 hk4 hb04 hb14 c0 c1 c2 f0 f1 f2 d0 d1 d2 x0 x1 x2 hui hbel4
      by_cases hfit : k < M
      · go_wp2_with fail
        have hbf := (((HBE.out.setCell (p := ⟨w.heap.size, 0, none⟩) (Nat.le_refl _) (.slice (some ⟨ug, 0, none⟩) (k + 1) uc4)).setCell (p := ⟨w.heap.size + 1, 0, none⟩) (Nat.le_succ _) (.slice (some ⟨ug, 0, none⟩) (k + 1) uc4)).setCell (p := ⟨w.heap.size + 1, 1, none⟩) (Nat.le_succ _) (.int .i64 (M : Int))).setCell (p := ⟨w.heap.size + 1, 2, none⟩) (Nat.le_succ _) (.int .i64 (g : Int))
        have hne : ∀ a : Addr, some (⟨ug, 0, none⟩ : Addr) = some a → a.block ≠ w.heap.size ∧ a.block ≠ w.heap.size + 1 := fun a ha => by
          cases ha; exact ⟨by show ug ≠ _; omega, by show ug ≠ _; omega⟩
        have hui := (((HU.out.set_other ⟨w.heap.size, 0, none⟩ (.slice (some ⟨ug, 0, none⟩) (k + 1) uc4) (fun a ha => (hne a ha).1)).set_other ⟨w.heap.size + 1, 0, none⟩ (.slice (some ⟨ug, 0, none⟩) (k + 1) uc4) (fun a ha => (hne a ha).2)).set_other ⟨w.heap.size + 1, 1, none⟩ (.int .i64 (M : Int)) (fun a ha => (hne a ha).2)).set_other ⟨w.heap.size + 1, 2, none⟩ (.int .i64 (g : Int)) (fun a ha => (hne a ha).2)
        refine bodyPost_ret (v := .tuple #[refV (some ⟨ug, 0, none⟩) (k + 1) uc4 M g, .int .i64 0, .bool false]) ?_ rfl ?_
        · simp [results, Try.results12, go_sem, p0, p1, p2]
        · exact ⟨some ⟨ug, 0, none⟩, uc4, fun a ha => by cases ha; exact ⟨by show _ ≤ ug; omega, by simp; omega⟩, hbf, .inl ⟨hfit, rfl, hui⟩⟩
      · obtain ⟨ub, uoff, hub, _, huc⟩ := HU.out.cell (k := 0) (by omega)
        simp only [Option.some.injEq, Addr.mk.injEq, and_true] at hub
        obtain ⟨rfl, rfl⟩ := hub
        have hhd : (zs ++ [v]).getD 0 0 = (zs ++ [v]).headD 0 := by cases zs <;> rfl
        obtain ⟨x, hx⟩ : ∃ x, x = (zs ++ [v]).headD 0 := ⟨_, rfl⟩
        rw [hhd, ← hx] at huc
        simp only [Nat.add_zero] at huc
        have hMk : M ≤ k := by omega
        have hki : (1 : Int) ≤ ((k + 1 : Nat) : Int) := by omega
        have hki2 : (1 : Int) ≤ (k : Int) + 1 := by omega
        have hug1 : ¬ ug = w.heap.size := by omega
        have hug2 : ¬ w.heap.size = ug := by omega
        have HX := Lib.hid hx; clear hhd hx
        go_wp2_with fail
        have hut := slice_lo HU.out 1 (by omega)
        rw [Nat.add_sub_cancel, show (zs ++ [v]).drop 1 = (zs ++ [v]).tail by cases zs <;> rfl] at hut
        have hso : ∀ a, slo (some ⟨ug, 0, none⟩) uc4 1 = some a → a.block = ug := fun a ha => by
          obtain ⟨a0, h0, h1⟩ := slo_block _ _ _ a ha
          cases h0
          exact h1
        generalize slo (some ⟨ug, 0, none⟩) uc4 1 = so at *
        have hb2 : ((w4.setCell ⟨w.heap.size, 0, none⟩ (.slice so k (uc4 - 1))).setCell ⟨w.heap.size, 2, none⟩ (.int .i64 ((g : Int) + 1))).heap[w.heap.size]? = some (boxObj (.slice so k (uc4 - 1)) M (g + 1)) := box_set2 (box_set0 HB04.out _) _ (g + 1) (by omega)
        have hr2 : ((w4.setCell ⟨w.heap.size, 0, none⟩ (.slice so k (uc4 - 1))).setCell ⟨w.heap.size, 2, none⟩ (.int .i64 ((g : Int) + 1))).heap[w.heap.size + 1]? = some (boxObj (.slice none 0 0) 0 0) :=
          heap_set_other _ _ _ (by show w.heap.size + 1 ≠ w.heap.size; omega) (heap_set_other _ _ _ (by show w.heap.size + 1 ≠ w.heap.size; omega) HB14.out)
        have hbel2 := (HBE.out.setCell (p := ⟨w.heap.size, 0, none⟩) (Nat.le_refl _) (.slice so k (uc4 - 1))).setCell (p := ⟨w.heap.size, 2, none⟩) (Nat.le_refl _) (.int .i64 ((g : Int) + 1))
        have hut2 := (hut.set_other ⟨w.heap.size, 0, none⟩ (.slice so k (uc4 - 1)) (fun a ha => by have := hso a ha; show a.block ≠ w.heap.size; omega)).set_other ⟨w.heap.size, 2, none⟩ (.int .i64 ((g : Int) + 1)) (fun a ha => by have := hso a ha; show a.block ≠ w.heap.size; omega)
        have hcx : ((w4.setCell ⟨w.heap.size, 0, none⟩ (.slice so k (uc4 - 1))).setCell ⟨w.heap.size, 2, none⟩ (.int .i64 ((g : Int) + 1))).cell? ⟨ug, 0, none⟩ = some (.int .i64 x) :=
          (World.cell?_of_block (a := ⟨ug, 0, none⟩) ((Below.heap_setCell _ _ _ _ (by show ug ≠ _; omega)).trans (Below.heap_setCell _ _ _ _ (by show ug ≠ _; omega)))).trans huc
        have hsz2 : ug < ((w4.setCell ⟨w.heap.size, 0, none⟩ (.slice so k (uc4 - 1))).setCell ⟨w.heap.size, 2, none⟩ (.int .i64 ((g : Int) + 1))).heap.size := by simp; omega
        generalize ((w4.setCell ⟨w.heap.size, 0, none⟩ (.slice so k (uc4 - 1))).setCell ⟨w.heap.size, 2, none⟩ (.int .i64 ((g : Int) + 1))) = W2 at *
        obtain ⟨g0, g1, g2, s0, s1, s2, hgl⟩ := boxCells hb2
        obtain ⟨r0, r1, r2, t0, t1, t2, hrl2⟩ := boxCells hr2
        have HUT := Lib.hid hut2; have HBE2 := Lib.hid hbel2; have HSO := Lib.hid hso
        clear e0 e1 e2 y0 y1 y2 p0 p1 p2 q0 q1 q2 hut hb2 hr2 hbel2 hut2 huc HU hso
        go_region
        all_goals go_wp2_with fail
        all_goals
          have hbf := (((HBE2.out.setCell (p := ⟨w.heap.size + 1, 0, none⟩) (Nat.le_succ _) (.slice so k (uc4 - 1))).setCell (p := ⟨w.heap.size + 1, 1, none⟩) (Nat.le_succ _) (.int .i64 (M : Int))).setCell (p := ⟨w.heap.size + 1, 2, none⟩) (Nat.le_succ _) (.int .i64 ((g : Int) + 1))).drew
          have hob : ∀ a, so = some a → a.block ≠ w.heap.size + 1 := fun a ha => by have := HSO.out a ha; omega
          have hui2 := (((HUT.out.set_other ⟨w.heap.size + 1, 0, none⟩ (.slice so k (uc4 - 1)) hob).set_other ⟨w.heap.size + 1, 1, none⟩ (.int .i64 (M : Int)) hob).set_other ⟨w.heap.size + 1, 2, none⟩ (.int .i64 ((g : Int) + 1)) hob).drew
          refine bodyPost_ret (v := .tuple #[refV so k (uc4 - 1) M (g + 1), .int .i64 x, .bool true]) ?_ rfl ?_
          · simp [results, Try.results12, go_sem, r0, r1, r2]
          · exact ⟨so, uc4 - 1, fun a ha => by have := HSO.out a ha; exact ⟨by omega, by simp; omega⟩, hbf, .inr ⟨hMk, by rw [← HX.out], hui2⟩⟩
end Go.Proofs.Ytaklkhjgdopbgaa
