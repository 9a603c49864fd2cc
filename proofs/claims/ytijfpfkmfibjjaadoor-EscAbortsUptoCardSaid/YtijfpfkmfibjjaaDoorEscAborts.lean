/- The walk of EscAborts. -/
import Derived.Test.YtijfpfkmfibjjaaDoorEscTwo
namespace Go.Proofs.YtijfpfkmfibjjaaDoor
open Go.RowKit

set_option maxRecDepth 100000 in
set_option maxHeartbeats 3200000 in
theorem aborts_any (o : Option Addr) (n cap : Nat) (bs : List UInt8) (o' : Option Addr) (n' cap' : Nat) (cs : List UInt8) (w : World) (ht : UTabs w ∧ PTab w) (hx : Bts w o n cap bs) (hy : Bts w o' n' cap' cs) (hn : n ≤ 1048576) (hn' : n' ≤ 1048576) :
    Calls Tryd.prog 5 #[.slice o n cap, .slice o' n' cap'] w fun e w' => e = .returned (.bool true) ∧ Below w.heap.size w w' := by
  have HA := Lib.hid (alive_any w ht.1 ht.2)
  have HX := Lib.hid hx; have HY := Lib.hid hy; have HT := Lib.hid ht.1
  clear hx hy ht
  go_enter Tryd.func5, Tryd.ntmps5
  go_wp2_with fail
  refine HA.out.mono ?_
  rintro e w1 ⟨rfl, hb1⟩
  have HP := Lib.hid (TP.start hb1 (HT.out.step hb1))
  clear HA hb1
  go_wp2_with fail
  generalize hp : w1.heap.size = p at *
  generalize hW : ((w1.alloc (.cells Tryd.zeroCells33 33)).alloc (.cells Tryd.zeroCells33 33)) = W at *
  clear hp hW
  have HF := Lib.hid (feed_arg p {} o n cap bs w W HP.out.ps HX.out HP.out.bel HP.out.le (by omega))
  refine HF.out.mono ?_
  rintro e w2 ⟨ro, rc, rfl, _, h2, h3⟩
  have HP2 := Lib.hid (HP.out.fed1 h2 h3)
  clear h2 h3 HP HF
  generalize (es.feed {} bs).1 = s at *
  generalize (es.feed {} bs).2.length = m at *
  have hb2 := below_one w2 (.cells #[.int .u8 24] 5)
  have HP3 := Lib.hid (HP2.out.step hb2)
  have HF := Lib.hid (feed_pg p s (some ⟨w2.heap.size, 0, none⟩) 1 1 [24] _ HP3.out.ps (nums_one w2 24 5) (fun _ d hd e => by cases hd; have := HP2.out.size; simp at e; omega) (by omega))
  clear hb2 HP2
  go_wp2_with fail
  refine HF.out.mono ?_
  rintro e w3 ⟨ro3, rc3, rfl, _, h2, h3⟩
  rw [es.feed_24] at h2
  have HP4 := Lib.hid (HP3.out.fed1 h2 h3)
  clear h2 h3 HP3 HF
  generalize (es.feed s [24]).2.length = m3 at *
  go_wp2_with fail
  refine HP4.out.ps.idle.mono ?_
  rintro e w4 ⟨rfl, rfl⟩
  have HF := Lib.hid (feed_arg p {} o' n' cap' cs w w3 HP4.out.ps HY.out HP4.out.bel HP4.out.le (by omega))
  go_wp2_with fail
  refine HF.out.mono ?_
  rintro e w4 ⟨ro4, rc4, rfl, h1, h2, h3⟩
  have HP5 := Lib.hid (HP4.out.fed1 h2 h3)
  have HA4 := Lib.hid h1
  have hp4 := HP4.out.size
  clear h1 h2 h3 HP4 HF
  have HF := Lib.hid (feed_arg (p + 1) {} o' n' cap' cs w w4 HP5.out.qs HY.out HP5.out.bel (by have := HP5.out.le; omega) (by omega))
  go_wp2_with fail
  refine HF.out.mono ?_
  rintro e w5 ⟨ro5, rc5, rfl, h1, h2, h3⟩
  have HP6 := Lib.hid (HP5.out.fed2 h2 h3)
  have HA5 := Lib.hid (h1.inS.1)
  have HA4' := Lib.hid (HA4.out.keptP h3 (by omega)).inS.1
  clear h1 h2 h3 HP5 HF HA4
  have HS := Lib.hid (same_acts ro4 rc4 _ ro5 rc5 _ w5 HA4'.out HA5.out)
  clear HA4' HA5
  go_wp2_with fail
  refine HS.out.mono ?_
  rintro e w6 ⟨rfl, hb6⟩
  have HP7 := Lib.hid (HP6.out.step hb6)
  clear hb6 HS HP6
  go_wp2_with fail
  refine HP7.out.ps.idle.mono ?_
  rintro e w7 ⟨rfl, rfl⟩
  go_wp2_with fail
  refine HP7.out.qs.idle.mono ?_
  rintro e w8 ⟨rfl, rfl⟩
  go_wp2_with fail
  go_ret
  exact ⟨rfl, HP7.out.bel⟩
end Go.Proofs.YtijfpfkmfibjjaaDoor
