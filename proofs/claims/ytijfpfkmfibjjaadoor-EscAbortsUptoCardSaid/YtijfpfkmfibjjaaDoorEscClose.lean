/- inClosing. -/
import Derived.Test.YtijfpfkmfibjjaaDoorEscEsc
namespace Go.Proofs.YtijfpfkmfibjjaaDoor
open Go.RowKit

set_option maxRecDepth 100000 in
set_option maxHeartbeats 1600000 in
theorem inClosing_any (p B : Nat) (s : es.St) (cur : Array Value) (V : Value) (l : List es.Act) (b : UInt8) (w : World) (h : PsAt w p s cur) (ha : ActsAt w B V l) (hl : l.length ≤ 1099511627776) (hpB : p < B) (hBw : B ≤ w.heap.size) :
    Calls Tryd.prog 31 #[.pointer (some ⟨p, 0, none⟩), V, .int .u8 b.toNat] w fun e w' => ∃ V', e = .returned V' ∧ ActsAt w' B V' (l ++ (es.inClosing s b).2) ∧ (∃ cur', PsAt w' p (es.inClosing s b).1 cur') ∧ Kept w w' (Fr p B) := by
  have hz := run_esc p s cur w h
  have hpw := h.lt
  have HA := Lib.hid ha
  have HH := Lib.hid h
  have HE := Lib.hid (row_at h esc_is)
  have HKR := Lib.hid ((Kept.refl w (· = p)).setRow (fun _ => rfl) escC)
  have HAK := Lib.hid (fun w' (hk : Kept w w' (· = p)) => ha.kept hk (fun k hk e => by omega))
  clear h ha
  by_cases h92 : b.toNat = 92
  · have e : es.inClosing s b = es.say s (es.str s) := by unfold es.inClosing; rw [if_pos h92]
    rw [e, show (b.toNat : Int) = _ from congrArg Nat.cast h92]
    clear hz
    go_enter Tryd.func31, Tryd.ntmps31
    go_wp2_with fail
    refine (mkStr_any p s cur w HH.out).mono ?_
    rintro e w1 ⟨rfl, hb⟩
    have HB := Lib.hid hb
    have HB' := Lib.hid (hb.mono hBw)
    clear hb
    go_wp2_with fail
    refine (say_any p B s cur V l (es.str s) none 0 w1 (HH.out.below HB.out hpw) (HA.out.below HB.out) hl hpB (Nat.le_trans hBw HB.out.size) (act1_none w1 B (es.str s) rfl)).mono ?_
    rintro e w2 ⟨V', rfl, r1, r2, r3⟩
    go_wp2_with fail
    go_ret
    exact ⟨_, rfl, r1, r2, (Kept.fr_below HB'.out).fr_trans r3⟩
  · have e : es.inClosing s b = es.inEscape { state := 1 } b := by unfold es.inClosing; rw [if_neg h92]
    rw [e]
    have b1 : ((b.toNat : Int) == 92) = false := by simp; omega
    have HIN := Lib.hid (inEscape_any p B { state := 1 } escC V l b (w.setRow p escC) HE.out (HAK.out _ HKR.out) hl hpB (by rw [setRow_size]; exact hBw) (by simp))
    go_enter Tryd.func31, Tryd.ntmps31
    go_wp2_with fail
    refine HIN.out.mono ?_
    rintro e w2 ⟨V', rfl, r1, r2, r3⟩
    go_wp2_with fail
    go_ret
    exact ⟨_, rfl, r1, r2, HKR.out.fr.fr_trans r3⟩
end Go.Proofs.YtijfpfkmfibjjaaDoor
