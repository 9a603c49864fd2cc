/- inString. -/
import Derived.Test.YtijfpfkmfibjjaaDoorEscCsi
namespace Go.Proofs.YtijfpfkmfibjjaaDoor
open Go.RowKit

set_option maxRecDepth 100000 in
set_option maxHeartbeats 1600000 in
theorem inString_any (p B : Nat) (s : es.St) (cur : Array Value) (V : Value) (l : List es.Act) (b : UInt8) (w : World) (h : PsAt w p s cur) (ha : ActsAt w B V l) (hl : l.length ≤ 1099511627776) (hpB : p < B) (hBw : B ≤ w.heap.size) :
    Calls Tryd.prog 30 #[.pointer (some ⟨p, 0, none⟩), V, .int .u8 b.toNat] w fun e w' => ∃ V', e = .returned V' ∧ ActsAt w' B V' (l ++ (es.inString s b).2) ∧ (∃ cur', PsAt w' p (es.inString s b).1 cur') ∧ Kept w w' (Fr p B) := by
  have hz := run_zero p s cur w h
  have c0 : w.cell? ⟨p, 0, none⟩ = some (.int .i64 s.state) := (h.c 0).trans h.is.st
  have f0 := h.f 0
  have hpw := h.lt
  have HA := Lib.hid ha
  have HH := Lib.hid h
  have HZ := Lib.hid (row_at h zero_is)
  have HKR := Lib.hid (fun c => (Kept.refl w (· = p)).setRow (fun _ => rfl) c)
  have HAK := Lib.hid (fun w' (hk : Kept w w' (· = p)) => ha.kept hk (fun k hk e => by omega))
  clear h ha
  by_cases h7 : b.toNat = 7
  · have e : es.inString s b = es.say s (es.str s) := by unfold es.inString; rw [if_pos h7]
    rw [e, show (b.toNat : Int) = _ from congrArg Nat.cast h7]
    go_enter Tryd.func30, Tryd.ntmps30
    go_wp2_with fail
    refine (mkStr_any p s cur w HH.out).mono ?_
    rintro e w1 ⟨rfl, hb⟩
    have HB := Lib.hid hb
    have HB' := Lib.hid (hb.mono hBw)
    clear hb
    go_wp2_with fail
    refine (say_any p B s cur V l (es.str s) none 0 w1 (HH.out.below HB.out hpw) (HA.out.below HB.out) hl hpB (Nat.le_trans hBw HB.out.size) (act1_none w1 B (es.str s) rfl)).mono ?_
    rintro e w2 ⟨V', rfl, r1, r2, r3⟩
    go_wp2_with fail
    go_ret
    exact ⟨_, rfl, r1, r2, (Kept.fr_below HB'.out).fr_trans r3⟩
  by_cases h27 : b.toNat = 27
  · have e : es.inString s b = ({ s with state := 4 }, []) := by unfold es.inString; rw [if_neg h7, if_pos h27]
    rw [e, List.append_nil, show (b.toNat : Int) = _ from congrArg Nat.cast h27]
    have hk := (Kept.refl w (· = p)).setCell (p := ⟨p, 0, none⟩) (fun _ => rfl) (.int .i64 4)
    have HS := Lib.hid (And.intro (HH.out.set 0 (.int .i64 4) (HH.out.is.setState 4)) hk)
    clear hk
    go_enter Tryd.func30, Tryd.ntmps30
    go_wp2_with fail
    go_ret
    exact ⟨_, rfl, HAK.out _ HS.out.2, ⟨_, HS.out.1⟩, HS.out.2.fr⟩
  by_cases h24 : b.toNat = 24 ∨ b.toNat = 26
  · have e : es.inString s b = ({}, []) := by unfold es.inString; rw [if_neg h7, if_neg h27, if_pos h24]
    rw [e, List.append_nil]
    rcases h24 with h | h
    all_goals
      rw [show (b.toNat : Int) = _ from congrArg Nat.cast h]
      go_enter Tryd.func30, Tryd.ntmps30
      go_wp2_with fail
      go_ret
      exact ⟨_, rfl, HAK.out _ (HKR.out _), ⟨_, HZ.out⟩, (HKR.out _).fr⟩
  have b1 : ((b.toNat : Int) == 7) = false := by simp; omega
  have b2 : ((b.toNat : Int) == 27) = false := by simp; omega
  have b3 : ((b.toNat : Int) == 24) = false := by simp; omega
  have b4 : ((b.toNat : Int) == 26) = false := by simp; omega
  by_cases h32 : 32 ≤ b.toNat
  · have e : es.inString s b = (es.addText s b, []) := by unfold es.inString; rw [if_neg h7, if_neg h27, if_neg h24, if_pos h32]
    rw [e, List.append_nil]
    have b5 : (32 : Int) ≤ (b.toNat : Int) := by omega
    clear hz
    go_enter Tryd.func30, Tryd.ntmps30
    go_wp2_with fail
    refine (addText_any p s cur b w HH.out).mono ?_
    rintro e w1 ⟨rfl, r1, r2⟩
    go_wp2_with fail
    go_ret
    exact ⟨_, rfl, HAK.out _ r2, r1, r2.fr⟩
  · have e : es.inString s b = (s, []) := by unfold es.inString; rw [if_neg h7, if_neg h27, if_neg h24, if_neg h32]
    rw [e, List.append_nil]
    have b5 : decide ((32 : Int) ≤ (b.toNat : Int)) = false := decide_eq_false (by omega)
    clear hz
    go_enter Tryd.func30, Tryd.ntmps30
    go_wp2_with fail
    go_ret
    exact ⟨_, rfl, HA.out, ⟨_, HH.out⟩, Kept.refl _ _⟩
end Go.Proofs.YtijfpfkmfibjjaaDoor
