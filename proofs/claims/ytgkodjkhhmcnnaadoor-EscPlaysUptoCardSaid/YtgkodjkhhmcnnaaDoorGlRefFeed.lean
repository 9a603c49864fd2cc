/- The document's Feed. -/
import Derived.Test.YtgkodjkhhmcnnaaDoorGlBegins
import Derived.Deep.QuietTactic
namespace Go.Proofs.YtgkodjkhhmcnnaaDoor
open Go.RowKit
attribute [local go_sem ↓ 10000] run_slo_b

theorem begins_iff (l : List UInt8) (h : l ≠ []) : gl.begins l = !gl.full l := by
  unfold gl.begins
  simp [h]
theorem read_whole {l : List UInt8} (h : gl.full l = true) : gl.read l = if (gl.whole l).1 = 0 then (65533 :: (gl.read (l.drop 1)).1, (gl.read (l.drop 1)).2) else (((gl.whole l).2 : Int) :: (gl.read (l.drop (gl.whole l).1)).1, (gl.read (l.drop (gl.whole l).1)).2) := by
  rw [gl.read_go h, gl.whole_dec l (gl.full_ne h)]
  split <;> rfl
/-- where the document's reading stands -/
def RF (wr : World) (B : Nat) (L : List UInt8) (i : Nat) (ro : Option Addr) (m rc : Nat) : Prop := ∃ xs, Own wr B 21 .i32 ro m rc xs ∧ xs ++ (gl.read (L.drop i)).1 = (gl.read L).1 ∧ (gl.read (L.drop i)).2 = (gl.read L).2
set_option maxRecDepth 100000 in
set_option maxHeartbeats 1600000 in
theorem refFeed_any (o : Option Addr) (n cap : Nat) (l : List UInt8) (w : World) (hx : Bts w o n cap l) (hn : n ≤ 1099511627776) :
    Calls Tryd.prog 39 #[.slice o n cap] w fun e w' => ∃ ro m rc o2 n2 c2, e = .returned (.tuple #[.slice ro m rc, .slice o2 n2 c2]) ∧ Own w' w.heap.size 21 .i32 ro m rc (gl.read l).1 ∧ Bts w' o2 n2 c2 (gl.read l).2 ∧ (∀ a', o2 = some a' → ∃ a, o = some a ∧ a'.block = a.block) ∧ Below w.heap.size w w' := by
  obtain ⟨i0, hi, hz0, hz1, hz2⟩ := info_parts infoR
  have hmx : cap ≤ 9223372036854775807 := hx.max
  have hle := hx.le
  have hsz := hx.size
  have HX := Lib.hid hx; have HL := Lib.hid hsz
  have HO0 : Hid (RF (w.alloc (.cells #[] 21)) w.heap.size l 0 (some ⟨w.heap.size, 0, none⟩) 0 0) := Lib.hid ⟨[], own_made0 (w := w) (B := w.heap.size) 0 #[] (Nat.le_refl _) (by unfold maxLen; omega) rfl 21 .i32, rfl, rfl⟩
  have HB0 := Lib.hid ((Below.refl w.heap.size w).alloc (Nat.le_refl _) (.cells #[] 21))
  clear hx hsz
  go_enter Tryd.func39, Tryd.ntmps39
  go_wp2_with fail
  go_loopg [4, 5] n (fun gg s4 s5 wr => ∃ (i m : Nat) (ro : Option Addr) (rc : Nat), s5 = .int .i64 i ∧ s4 = .slice ro m rc ∧ i ≤ n ∧ n - i ≤ gg ∧ m ≤ i ∧ Hid (RF wr w.heap.size l i ro m rc) ∧ Hid (Below w.heap.size w wr))
  case atStart => exact ⟨0, 0, _, 0, rfl, rfl, Nat.zero_le _, by omega, Nat.le_refl _, HO0, HB0⟩
  case round =>
    clear HO0 HB0
    obtain ⟨i, m, ro, rc, rfl, rfl, hin, hgg, hmi, HR, HB⟩ := hrel
    by_cases hlt : i < n
    · have hii : (i : Int) ≤ (n : Int) := by omega
      have hbw : Below w.heap.size w wr := HB.out
      have hbt := slice_lo (HX.out.below hbw) i hin
      rw [u8s_drop] at hbt
      have HBT := Lib.hid hbt
      have HG := Lib.hid (begins_any _ _ _ _ wr hbt)
      have hne : l.drop i ≠ [] := fun h => by have := congrArg List.length h; rw [List.length_drop, HL.out] at this; simp at this; omega
      rw [begins_iff _ hne] at HG
      have hsr : w.heap.size ≤ wr.heap.size := hbw.size
      clear hbt hbw
      cases hf : gl.full (l.drop i) with
      | false =>
        have hst := gl.read_stop hf
        rw [hf] at HG
        obtain ⟨xs, hO, hq1, hq2⟩ := HR.out
        rw [hst] at hq1 hq2
        rw [List.append_nil] at hq1
        subst hq1
        have HO := Lib.hid hO; have HQ2 := Lib.hid hq2
        clear hO hq2 hst hf HR hne
        go_wp2_with fail
        refine HG.out.mono ?_
        rintro e w2 ⟨rfl, hb2⟩
        have HB2 := Lib.hid (HB.out.trans (hb2.mono hsr))
        have HO2 := Lib.hid (HO.out.below hb2)
        have HT2 := Lib.hid (HBT.out.below hb2)
        clear hb2 HG
        go_wp2_with fail
        go_quiet (fail)
        go_wp2_with fail
        go_ret2
        exact ⟨ro, m, rc, _, _, _, rfl, ⟨(HO2.out.below (below_drewN (Below.refl _ _) nq)).row⟩, HQ2.out ▸ HT2.out.drewN nq, slo_block _ _ _, below_drewN HB2.out nq⟩
      | true =>
        have hgo := read_whole hf
        have hws := gl.whole_size (l.drop i)
        rw [hf] at HG
        rw [List.length_drop, HL.out] at hws
        rw [List.drop_drop, List.drop_drop] at hgo
        have HW := Lib.hid (fun X (hb : Below wr.heap.size wr X) => whole_any _ _ _ _ X (HBT.out.below hb))
        unfold WholeAns at HW
        obtain ⟨xs, hO, hq1, hq2⟩ := HR.out
        rw [hgo] at hq1 hq2
        generalize (gl.whole (l.drop i)).1 = N at *
        generalize (gl.whole (l.drop i)).2 = R at *
        have HO := Lib.hid hO; have HQ1 := Lib.hid hq1; have HQ2 := Lib.hid hq2
        clear hgo HR hO hq1 hq2 hf hne
        go_wp2_with fail
        refine HG.out.mono ?_
        rintro e w1 ⟨rfl, hb1⟩
        have HB1 := Lib.hid hb1
        clear hb1 HG
        go_wp2_with fail
        refine (HW.out _ HB1.out).mono ?_
        rintro e w2 ⟨rfl, nq, hw2⟩
        have hb2 : Below wr.heap.size wr w2 := hw2 ▸ below_drewN HB1.out nq
        have HB2 := Lib.hid (HB.out.trans (hb2.mono hsr))
        have HO2 := Lib.hid (HO.out.below hb2)
        have hs2 : w.heap.size ≤ w2.heap.size := HB2.out.size
        clear hw2 hb2 HW HO HB HB1
        by_cases h0 : N = 0
        · subst h0
          have hQ1 := HQ1.out; have hQ2 := HQ2.out
          rw [if_pos rfl] at hQ1 hQ2
          have HP1 := Lib.hid hQ1; have HP2 := Lib.hid hQ2
          clear hQ1 hQ2 HQ1 HQ2
          go_wp2_with (at_builtin; refine wpList_append_nums (K := .i32) rfl _ _ 69 rfl w.heap.size 21 i0 (Value.int .i32 0) 4 Tryd.underlying69 hi hz0 hz1 hz2 (by decide) rfl (.slice ro m rc) m xs rfl ?c1 (some ⟨w2.heap.size, 0, none⟩) 1 1 [65533] rfl ?c0 ?c2 ?c3 ?_)
          case c1 => exact HO2.out.row.alloc _
          case c0 => exact nums_one w2 65533 _
          case c2 => omega
          case c3 => simp; omega
          intro v' w3 hr3 hg3 _
          obtain ⟨ro', rc', rfl, hO3⟩ := Own.of (K := .i32) (xs := xs ++ [65533]) (by simpa [cs] using hr3)
          have HB3 : Hid (Below w.heap.size w w3) := Lib.hid ((HB2.out.alloc hs2 _).trans (grown_below hg3 (HO2.out.row.alloc _) (by simp; omega)))
          have HR3 : Hid (RF w3 w.heap.size l (i + 1) ro' (m + 1) rc') := Lib.hid ⟨_, hO3, by rw [List.append_assoc]; exact HP1.out, HP2.out⟩
          clear hr3 hg3 hO3 HO2
          go_wp2_with fail
          go_roundg (n - (i + 1))
          case measure => omega
          case rel => exact ⟨i + 1, m + 1, ro', rc', by go_num, rfl, by omega, Nat.le_refl _, by omega, HR3, HB3⟩
        · have hQ1 := HQ1.out; have hQ2 := HQ2.out
          rw [if_neg h0] at hQ1 hQ2
          have HP1 := Lib.hid hQ1; have HP2 := Lib.hid hQ2
          have hN : ((N : Int) == 0) = false := by simp; omega
          have hN1 : 1 ≤ N := by omega
          have hNi : (N : Int) ≤ 4 := by omega
          clear hQ1 hQ2 HQ1 HQ2 h0
          go_wp2_with (at_builtin; refine wpList_append_nums (K := .i32) rfl _ _ 69 rfl w.heap.size 21 i0 (Value.int .i32 0) 4 Tryd.underlying69 hi hz0 hz1 hz2 (by decide) rfl (.slice ro m rc) m xs rfl ?d1 (some ⟨w2.heap.size, 0, none⟩) 1 1 [(R : Int)] rfl ?d0 ?d2 ?d3 ?_)
          case d1 => exact HO2.out.row.alloc _
          case d0 => exact nums_one w2 R _
          case d2 => omega
          case d3 => simp; omega
          intro v' w3 hr3 hg3 _
          obtain ⟨ro', rc', rfl, hO3⟩ := Own.of (K := .i32) (xs := xs ++ [(R : Int)]) (by simpa [cs] using hr3)
          have HB3 : Hid (Below w.heap.size w w3) := Lib.hid ((HB2.out.alloc hs2 _).trans (grown_below hg3 (HO2.out.row.alloc _) (by simp; omega)))
          have HR3 : Hid (RF w3 w.heap.size l (i + N) ro' (m + 1) rc') := Lib.hid ⟨_, hO3, by rw [List.append_assoc]; exact HP1.out, HP2.out⟩
          clear hr3 hg3 hO3 HO2
          go_wp2_with fail
          go_roundg (n - (i + N))
          case measure => omega
          case rel => exact ⟨i + N, m + 1, ro', rc', by go_num, rfl, by omega, Nat.le_refl _, by omega, HR3, HB3⟩
    · obtain rfl : i = n := by omega
      obtain ⟨xs, hO, hq1, hq2⟩ := HR.out
      rw [List.drop_of_length_le (by rw [HL.out]; exact Nat.le_refl _), show gl.read [] = ([], []) from rfl] at hq1 hq2
      rw [List.append_nil] at hq1
      subst hq1
      have HO := Lib.hid hO; have HQ2 := Lib.hid hq2
      clear hO hq2
      go_wp2_with fail
      go_ret2
      exact ⟨ro, m, rc, none, 0, 0, rfl, HO.out, HQ2.out ▸ Nums.nil .u8 _, (fun a' h => by cases h), HB.out⟩
end Go.Proofs.YtgkodjkhhmcnnaaDoor
