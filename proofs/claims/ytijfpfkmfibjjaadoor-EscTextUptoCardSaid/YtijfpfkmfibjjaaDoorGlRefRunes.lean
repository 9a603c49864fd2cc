/- The document's Runes. -/
import Derived.Test.YtijfpfkmfibjjaaDoorGlRunesM
import Derived.Test.YtijfpfkmfibjjaaDoorGlWhole
import Derived.Test.YtijfpfkmfibjjaaDoorGlLit
namespace Go.Proofs.YtijfpfkmfibjjaaDoor
open Go.RowKit
attribute [local go_sem ↓ 10000] run_slo_b

/-- where the document's reading stands -/
def RR (wr : World) (B : Nat) (L : List UInt8) (i : Nat) (ro : Option Addr) (m rc : Nat) : Prop := ∃ xs, Own wr B 21 .i32 ro m rc xs ∧ xs ++ gl.runes (L.drop i) = gl.runes L
set_option maxRecDepth 100000 in
set_option maxHeartbeats 1600000 in
theorem refRunes_any (o : Option Addr) (n cap : Nat) (l : List UInt8) (w : World) (hx : Bts w o n cap l) (hn : n ≤ 1099511627776) :
    Calls Tryd.prog 20 #[.slice o n cap] w fun e w' => ∃ ro m rc, e = .returned (.slice ro m rc) ∧ Own w' w.heap.size 21 .i32 ro m rc (gl.runes l) ∧ Below w.heap.size w w' := by
  obtain ⟨i0, hi, hz0, hz1, hz2⟩ := info_parts infoR
  have hmx : cap ≤ 9223372036854775807 := hx.max
  have hle := hx.le
  have hsz := hx.size
  have HX := Lib.hid hx; have HL := Lib.hid hsz
  have HO0 : Hid (RR (w.alloc (.cells #[] 21)) w.heap.size l 0 (some ⟨w.heap.size, 0, none⟩) 0 0) := Lib.hid ⟨[], own_made0 (w := w) (B := w.heap.size) 0 #[] (Nat.le_refl _) (by unfold maxLen; omega) rfl 21 .i32, rfl⟩
  have HB0 := Lib.hid ((Below.refl w.heap.size w).alloc (Nat.le_refl _) (.cells #[] 21))
  clear hx hsz
  go_enter Tryd.func20, Tryd.ntmps20
  go_wp2_with fail
  go_loopg [3, 4] n (fun gg s3 s4 wr => ∃ (i m : Nat) (ro : Option Addr) (rc : Nat), s4 = .int .i64 i ∧ s3 = .slice ro m rc ∧ i ≤ n ∧ n - i ≤ gg ∧ m ≤ i ∧ Hid (RR wr w.heap.size l i ro m rc) ∧ Hid (Below w.heap.size w wr))
  case atStart => exact ⟨0, 0, _, 0, rfl, rfl, Nat.zero_le _, by omega, Nat.le_refl _, HO0, HB0⟩
  case round =>
    clear HO0 HB0
    obtain ⟨i, m, ro, rc, rfl, rfl, hin, hgg, hmi, HR, HB⟩ := hrel
    by_cases hlt : i < n
    · have hii : (i : Int) ≤ (n : Int) := by omega
      have hbw : Below w.heap.size w wr := HB.out
      have hbt := slice_lo (HX.out.below hbw) i hin
      rw [u8s_drop] at hbt
      have HW := Lib.hid (whole_any _ _ _ _ wr hbt)
      have hne : l.drop i ≠ [] := fun h => by have := congrArg List.length h; rw [List.length_drop, HL.out] at this; simp at this; omega
      have hgo := gl.runes_whole hne
      have hws := gl.whole_size (l.drop i)
      rw [List.length_drop, HL.out] at hws
      unfold WholeAns at HW
      rw [List.drop_drop, List.drop_drop] at hgo
      obtain ⟨xs, hO, hq⟩ := HR.out
      rw [hgo] at hq
      generalize (gl.whole (l.drop i)).1 = N at *
      generalize (gl.whole (l.drop i)).2 = R at *
      have HO := Lib.hid hO; have HQ := Lib.hid hq
      have hsr : w.heap.size ≤ wr.heap.size := hbw.size
      clear hbw hbt hne hgo HR hO hq
      go_wp2_with fail
      refine HW.out.mono ?_
      rintro e w2 ⟨rfl, nq, hw2⟩
      have hb2 : Below wr.heap.size wr w2 := hw2 ▸ below_drewN (Below.refl _ _) nq
      have HB2 := Lib.hid (HB.out.trans (hb2.mono hsr))
      have HO2 := Lib.hid (HO.out.below hb2)
      have hs2 : w.heap.size ≤ w2.heap.size := HB2.out.size
      clear hw2 hb2 HW HO HB
      by_cases h0 : N = 0
      · subst h0
        have hQ := HQ.out
        rw [if_pos rfl] at hQ
        have HQ2 := Lib.hid hQ
        clear hQ HQ
        go_wp2_with (at_builtin; refine wpList_append_nums (K := .i32) rfl _ _ 52 rfl w.heap.size 21 i0 (Value.int .i32 0) 4 Tryd.underlying52 hi hz0 hz1 hz2 (by decide) rfl (.slice ro m rc) m xs rfl ?c1 (some ⟨w2.heap.size, 0, none⟩) 1 1 [65533] rfl ?c0 ?c2 ?c3 ?_)
        case c1 => exact HO2.out.row.alloc _
        case c0 => exact nums_one w2 65533 _
        case c2 => omega
        case c3 => simp; omega
        intro v' w3 hr3 hg3 _
        obtain ⟨ro', rc', rfl, hO3⟩ := Own.of (K := .i32) (xs := xs ++ [65533]) (by simpa [cs] using hr3)
        have HB3 : Hid (Below w.heap.size w w3) := Lib.hid ((HB2.out.alloc hs2 _).trans (grown_below hg3 (HO2.out.row.alloc _) (by simp; omega)))
        have HR3 : Hid (RR w3 w.heap.size l (i + 1) ro' (m + 1) rc') := Lib.hid ⟨_, hO3, by rw [List.append_assoc]; exact HQ2.out⟩
        clear hr3 hg3 hO3 HO2
        go_wp2_with fail
        go_roundg (n - (i + 1))
        case measure => omega
        case rel => exact ⟨i + 1, m + 1, ro', rc', by go_num, rfl, by omega, Nat.le_refl _, by omega, HR3, HB3⟩
      · have hQ := HQ.out
        rw [if_neg h0] at hQ
        have HQ2 := Lib.hid hQ
        have hN : ((N : Int) == 0) = false := by simp; omega
        have hN1 : 1 ≤ N := by omega
        have hNi : (N : Int) ≤ 4 := by omega
        clear hQ HQ h0
        go_wp2_with (at_builtin; refine wpList_append_nums (K := .i32) rfl _ _ 52 rfl w.heap.size 21 i0 (Value.int .i32 0) 4 Tryd.underlying52 hi hz0 hz1 hz2 (by decide) rfl (.slice ro m rc) m xs rfl ?d1 (some ⟨w2.heap.size, 0, none⟩) 1 1 [(R : Int)] rfl ?d0 ?d2 ?d3 ?_)
        case d1 => exact HO2.out.row.alloc _
        case d0 => exact nums_one w2 R _
        case d2 => omega
        case d3 => simp; omega
        intro v' w3 hr3 hg3 _
        obtain ⟨ro', rc', rfl, hO3⟩ := Own.of (K := .i32) (xs := xs ++ [(R : Int)]) (by simpa [cs] using hr3)
        have HB3 : Hid (Below w.heap.size w w3) := Lib.hid ((HB2.out.alloc hs2 _).trans (grown_below hg3 (HO2.out.row.alloc _) (by simp; omega)))
        have HR3 : Hid (RR w3 w.heap.size l (i + N) ro' (m + 1) rc') := Lib.hid ⟨_, hO3, by rw [List.append_assoc]; exact HQ2.out⟩
        clear hr3 hg3 hO3 HO2
        go_wp2_with fail
        go_roundg (n - (i + N))
        case measure => omega
        case rel => exact ⟨i + N, m + 1, ro', rc', by go_num, rfl, by omega, Nat.le_refl _, by omega, HR3, HB3⟩
    · obtain rfl : i = n := by omega
      obtain ⟨xs, hO, hq⟩ := HR.out
      rw [List.drop_of_length_le (by rw [HL.out]; exact Nat.le_refl _), gl.runes_nil, List.append_nil] at hq
      subst hq
      have HO := Lib.hid hO
      clear hO
      go_wp2_with fail
      go_ret
      exact ⟨ro, m, rc, rfl, HO.out, HB.out⟩
end Go.Proofs.YtijfpfkmfibjjaaDoor
