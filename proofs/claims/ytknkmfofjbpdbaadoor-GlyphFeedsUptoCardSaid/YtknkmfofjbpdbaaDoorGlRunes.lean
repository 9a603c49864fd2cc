/- Runes: what bytes are read as, all at once. -/
import Derived.Test.YtknkmfofjbpdbaaDoorGlReader
namespace Go.Proofs.YtknkmfofjbpdbaaDoor
open Go.RowKit

/-- a Reader's first value -/
abbrev rd0 : Array Value := #[.int .u8 0, .int .u8 0, .int .u8 0, .int .i64 0]
theorem rdAt_new (w : World) (t : TypeId) : RdAt (w.alloc (.cells rd0 t)) w.heap.size 0 [] rd0 t := by
  refine ⟨heap_alloc_new w _, by decide, by simp, ⟨[0, 0, 0], rfl, rfl, fun k hk => ?_⟩, rfl⟩
  obtain rfl | rfl | rfl : k = 0 ∨ k = 1 ∨ k = 2 := by omega
  all_goals rfl
set_option maxRecDepth 100000 in
set_option maxHeartbeats 1600000 in
theorem runes_any (o : Option Addr) (n cap : Nat) (bs : List UInt8) (w : World) (hx : Bts w o n cap bs) (ht : UTabs w) (hn : n ≤ 1099511627776) :
    Calls Tryd.prog 12 #[.slice o n cap] w fun e w' => ∃ ro m rc, e = .returned (.slice ro m rc) ∧ Own w' w.heap.size 21 .i32 ro m rc (gl.runes bs) ∧ Below w.heap.size w w' := by
  obtain ⟨i0, hi, hz0, hz1, hz2⟩ := info_parts infoR
  have hb0 := (Below.refl w.heap.size w).alloc (Nat.le_refl _) (.cells rd0 31)
  have HF := Lib.hid (feed_any w.heap.size 0 [] bs rd0 31 o n cap _ (rdAt_new w _) (hx.below hb0) (ht.step hb0) hn)
  have hl := gl.read_len bs.length bs (Nat.le_refl _)
  have hsz := hx.size
  have HL : Hid ((gl.read bs).1.length + (gl.read bs).2.length ≤ n) := Lib.hid (by rw [← hsz]; exact hl)
  clear hx ht hl hsz
  go_enter Tryd.func12, Tryd.ntmps12
  go_wp2_with fail
  refine HF.out.mono ?_
  rintro e w1 ⟨ro, m, rc, cur1, rfl, hown1, hrd1, _, _, hk1⟩
  rw [List.nil_append] at hown1 hrd1
  have hb1 : Below w.heap.size w w1 := hb0.trans (hk1.below (by simp) (fun k hk => by omega))
  have hm := hown1.len
  have HR := Lib.hid (rest_any w.heap.size 0 (gl.read bs).2 cur1 _ w1 hrd1)
  have HO1 := Lib.hid hown1; have HB1 := Lib.hid hb1; have HM := Lib.hid hm
  have hsz : w.heap.size + 1 ≤ w1.heap.size := by have := hk1.size; simp at this; omega
  clear hown1 hrd1 hk1 hb1 hm HF hb0
  go_wp2_with fail
  refine HR.out.mono ?_
  rintro e w2 ⟨ro2, rc2, cur2, rfl, hown2, _, _, _, hk2⟩
  have hown1 : Own w2 w.heap.size 21 .i32 ro m rc (gl.read bs).1 := (HO1.out.kept hk2 (fun a ha e => by have := (HO1.out.lt a ha).1; simp at this; omega)).base (by simp)
  have hb2 : Below w.heap.size w w2 := HB1.out.trans (hk2.below (by omega) (fun k hk => by omega))
  have HO := Lib.hid hown1; have HN := Lib.hid hown2.nums; have HB := Lib.hid hb2
  have hlm : m + (gl.read bs).2.length ≤ 1099511627776 := by have := HL.out; have := HM.out; omega
  have hs2 : w.heap.size ≤ w2.heap.size := by have := hk2.size; omega
  clear HO1 hown2 hown1 hb2 hk2 HR
  generalize hq : (gl.read bs).2.length = q at *
  have HQ := Lib.hid hq; clear hq
  go_wp2_with (at_builtin; refine wpList_append_nums (K := .i32) rfl _ _ 24 rfl w.heap.size 21 i0 (Value.int .i32 0) 4 Tryd.underlying24 hi hz0 hz1 hz2 (by decide) rfl (.slice ro m rc) m (gl.read bs).1 rfl ?c1 ro2 q rc2 (List.replicate q 65533) rfl ?c0 ?c2 ?c3 ?_)
  case c1 => exact HO.out.row
  case c0 => exact HN.out
  case c2 => omega
  case c3 => exact hs2
  intro v' w3 hr3 hg3 _
  obtain ⟨ro', rc', rfl, hO3⟩ := Own.of (K := .i32) (xs := (gl.read bs).1 ++ List.replicate q 65533) (by simpa [cs] using hr3)
  have HO3 := Lib.hid hO3
  have HB3 := Lib.hid (HB.out.trans (grown_below hg3 HO.out.row hs2))
  clear hr3 hg3 hO3
  go_wp2_with fail
  go_ret
  refine ⟨ro', m + q, rc', rfl, ?_, HB3.out⟩
  unfold gl.runes
  rw [HQ.out]
  exact HO3.out
end Go.Proofs.YtknkmfofjbpdbaaDoor
