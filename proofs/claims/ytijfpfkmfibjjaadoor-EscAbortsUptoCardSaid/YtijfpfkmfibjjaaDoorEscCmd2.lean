/- command. -/
import Derived.Test.YtijfpfkmfibjjaaDoorEscActs
namespace Go.Proofs.YtijfpfkmfibjjaaDoor
open Go.RowKit

/-- what a call on a parser in p with acts from B on may turn -/
abbrev Fr (p B : Nat) : Nat → Prop := fun k => k = p ∨ B ≤ k
theorem Kept.fr {w w' : World} {p B : Nat} (h : Kept w w' (· = p)) : Kept w w' (Fr p B) := h.weaken (fun _ _ h => .inl h)
theorem Kept.fr_below {w w' : World} {p B : Nat} (h : Below B w w') : Kept w w' (Fr p B) := ⟨h.os, h.tape, h.output, h.size, fun k _ hn => h.block k (Nat.lt_of_not_le fun h => hn (.inr h))⟩
theorem Kept.fr_trans {a b c : World} {p B : Nat} (h : Kept a b (Fr p B)) (k : Kept b c (Fr p B)) : Kept a c (Fr p B) := h.trans k (fun _ _ h => h)
theorem act1_none (w : World) (B : Nat) (a : es.Act) (h : a.params = []) : Act1 w B a none 0 := ⟨⟨rfl, by simp [h], by omega, .inl (by simp [h])⟩, fun h0 => absurd (by simp [h]) h0⟩
set_option maxRecDepth 100000 in
set_option maxHeartbeats 1600000 in
theorem command_any (p B : Nat) (s : es.St) (cur : Array Value) (V : Value) (l : List es.Act) (b : UInt8) (w : World) (h : PsAt w p s cur) (ha : ActsAt w B V l) (hl : l.length ≤ 1099511627776) (hpB : p < B) (hBw : B ≤ w.heap.size) :
    Calls Tryd.prog 43 #[.pointer (some ⟨p, 0, none⟩), V, .int .u8 b.toNat] w fun e w' => ∃ V', e = .returned V' ∧ ActsAt w' B V' (l ++ (es.command s b).2) ∧ (∃ cur', PsAt w' p (es.command s b).1 cur') ∧ Kept w w' (Fr p B) := by
  have hz := run_zero p s cur w h
  have he := run_esc p s cur w h
  have HA := Lib.hid ha
  have HZ := Lib.hid (row_at h zero_is)
  have HE := Lib.hid (row_at h esc_is)
  have HH := Lib.hid h
  have HKR := Lib.hid (fun c => (Kept.refl w (· = p)).setRow (fun _ => rfl) c)
  have HAK := Lib.hid (fun w' (hk : Kept w w' (· = p)) => ha.kept hk (fun k hk e => by omega))
  clear h ha
  by_cases h24 : b.toNat = 24 ∨ b.toNat = 26
  · have e : es.command s b = ({}, []) := by unfold es.command; rw [if_pos h24]
    rw [e, List.append_nil]
    rcases h24 with h | h
    all_goals
      rw [show (b.toNat : Int) = _ from congrArg Nat.cast h]
      go_enter Tryd.func43, Tryd.ntmps43
      go_wp2_with fail
      go_ret
      exact ⟨_, rfl, HAK.out _ (HKR.out _), ⟨_, HZ.out⟩, (HKR.out _).fr⟩
  by_cases h27 : b.toNat = 27
  · have e : es.command s b = ({ state := 1 }, []) := by unfold es.command; rw [if_neg h24, if_pos h27]
    rw [e, List.append_nil, show (b.toNat : Int) = _ from congrArg Nat.cast h27]
    go_enter Tryd.func43, Tryd.ntmps43
    go_wp2_with fail
    go_ret
    exact ⟨_, rfl, HAK.out _ (HKR.out _), ⟨_, HE.out⟩, (HKR.out _).fr⟩
  by_cases h127 : b.toNat = 127
  · have e : es.command s b = (s, []) := by unfold es.command; rw [if_neg h24, if_neg h27, if_pos h127]
    rw [e, List.append_nil, show (b.toNat : Int) = _ from congrArg Nat.cast h127]
    go_enter Tryd.func43, Tryd.ntmps43
    go_wp2_with fail
    go_ret
    exact ⟨_, rfl, HA.out, ⟨_, HH.out⟩, Kept.refl _ _⟩
  · have e : es.command s b = (s, [es.exec b]) := by unfold es.command; rw [if_neg h24, if_neg h27, if_neg h127]
    rw [e]
    have b1 : ((b.toNat : Int) == 24) = false := by simp; omega
    have b2 : ((b.toNat : Int) == 26) = false := by simp; omega
    have b3 : ((b.toNat : Int) == 27) = false := by simp; omega
    have b4 : ((b.toNat : Int) == 127) = false := by simp; omega
    have hA1 : ActsAt (w.alloc (.cells (actC (es.exec b) none 0).toArray 45)) B V l := HA.out.below ((Below.refl _ _).alloc (Nat.le_refl _) _)
    have hP1 := act1_none (w.alloc (.cells (actC (es.exec b) none 0).toArray 45)) B (es.exec b) rfl
    have hG1 := heap_alloc_new w (.cells (actC (es.exec b) none 0).toArray 45)
    have HT := Lib.hid (And.intro hA1 (And.intro hP1 hG1))
    have HB1 := Lib.hid ((Below.refl B w).alloc hBw (.cells (actC (es.exec b) none 0).toArray 45))
    clear hA1 hP1 hG1 hz he
    go_enter Tryd.func43, Tryd.ntmps43
    go_wp2_with (at_builtin; refine wpList_append_act rfl (.tmp 8) (.tmp 11) rfl B V l rfl HT.out.1 w.heap.size (es.exec b) none 0 rfl HT.out.2.2 HT.out.2.1 hl (by simp; omega) (fun v' w' r1 r2 => ?_))
    have HB2 : Below B w w' := HB1.out.trans r2
    go_ret
    exact ⟨_, rfl, r1, ⟨_, HH.out.below HB2 hpB⟩, Kept.fr_below HB2⟩
end Go.Proofs.YtijfpfkmfibjjaaDoor
