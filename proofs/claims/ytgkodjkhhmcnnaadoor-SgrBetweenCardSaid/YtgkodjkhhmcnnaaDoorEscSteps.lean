/- inControl. inEscape. inClosing. inGround. -/
import Derived.Test.YtgkodjkhhmcnnaaDoorEscMake
namespace Go.Proofs.YtgkodjkhhmcnnaaDoor
open Go.RowKit

theorem Act1.mono {w : World} {B B' : Nat} {a : es.Act} {o : Option Addr} {cap : Nat} (h : Act1 w B' a o cap) (hB : B ≤ B') : Act1 w B a o cap := ⟨h.nums, fun h0 d hd => ⟨Nat.le_trans hB (h.own h0 d hd).1, (h.own h0 d hd).2⟩⟩
set_option maxRecDepth 100000 in
set_option maxHeartbeats 1600000 in
theorem inControl_any (p B : Nat) (s : es.St) (cur : Array Value) (V : Value) (l : List es.Act) (b : UInt8) (w : World) (h : PsAt w p s cur) (ha : ActsAt w B V l) (hl : l.length ≤ 1099511627776) (hpB : p < B) (hBw : B ≤ w.heap.size) (hil : s.inter.length ≤ 2) (hn : es.Nums s) :
    Calls Tryd.prog 31 #[.pointer (some ⟨p, 0, none⟩), V, .int .u8 b.toNat] w fun e w' => ∃ V', e = .returned V' ∧ ActsAt w' B V' (l ++ (es.inControl s b).2) ∧ (∃ cur', PsAt w' p (es.inControl s b).1 cur') ∧ Kept w w' (Fr p B) := by
  have hz := run_zero p s cur w h
  have c0 : w.cell? ⟨p, 0, none⟩ = some (.int .i64 s.state) := (h.c 0).trans h.is.st
  have f0 := h.f 0
  have c7 : w.cell? ⟨p, 7, none⟩ = some (.int .u8 s.final) := (h.c 7).trans h.is.final
  have f7 := h.f 7
  have hpw := h.lt
  have HA := Lib.hid ha
  have HH := Lib.hid h
  have HZ := Lib.hid (row_at h zero_is)
  have HKR := Lib.hid (fun c => (Kept.refl w (· = p)).setRow (fun _ => rfl) c)
  have HAK := Lib.hid (fun w' (hk : Kept w w' (· = p)) => ha.kept hk (fun k hk e => by omega))
  have HX := isText_any b
  clear h ha
  cases hx : es.isText b with
  | false =>
    rw [hx] at HX
    have e : es.inControl s b = es.command s b := by unfold es.inControl; rw [if_pos hx]
    rw [e]
    clear hz
    go_enter Tryd.func31, Tryd.ntmps31
    go_wp2_with fail
    refine (HX w).mono ?_
    rintro e w1 ⟨rfl, rfl⟩
    go_wp2_with fail
    refine (command_any p B s cur V l b w HH.out HA.out hl hpB hBw).mono ?_
    rintro e w2 ⟨V', rfl, r1, r2, r3⟩
    go_wp2_with fail
    go_ret
    exact ⟨_, rfl, r1, r2, r3⟩
  | true =>
  rw [hx] at HX
  have hxn : ¬ es.isText b = false := by rw [hx]; simp
  by_cases h48 : b.toNat < 48
  · have e : es.inControl s b = (es.addInter s b, []) := by unfold es.inControl; rw [if_neg hxn, if_pos h48]
    rw [e, List.append_nil]
    have b1 : (b.toNat : Int) < 48 := by omega
    clear hz
    go_enter Tryd.func31, Tryd.ntmps31
    go_wp2_with fail
    refine (HX w).mono ?_
    rintro e w1 ⟨rfl, rfl⟩
    go_wp2_with fail
    refine (addInter_any p s cur b w HH.out hil).mono ?_
    rintro e w1 ⟨rfl, r1, r2⟩
    go_wp2_with fail
    go_ret
    exact ⟨_, rfl, HAK.out _ r2, r1, r2.fr⟩
  have b1 : decide ((b.toNat : Int) < 48) = false := decide_eq_false (by omega)
  by_cases h64 : b.toNat < 64
  · have e : es.inControl s b = (es.addParam s b, []) := by unfold es.inControl; rw [if_neg hxn, if_neg h48, if_pos h64]
    rw [e, List.append_nil]
    have b2 : (b.toNat : Int) < 64 := by omega
    have HPA := Lib.hid (addParam_any p s cur b w HH.out (by omega) h64 hn)
    clear hz
    go_enter Tryd.func31, Tryd.ntmps31
    go_wp2_with fail
    refine (HX w).mono ?_
    rintro e w1 ⟨rfl, rfl⟩
    go_wp2_with fail
    refine HPA.out.mono ?_
    rintro e w1 ⟨rfl, r1, r2⟩
    go_wp2_with fail
    go_ret
    exact ⟨_, rfl, HAK.out _ r2, r1, r2.fr⟩
  have b2 : decide ((b.toNat : Int) < 64) = false := decide_eq_false (by omega)
  by_cases h128 : b.toNat < 128
  · have e : es.inControl s b = es.say s (es.csi s b) := by unfold es.inControl; rw [if_neg hxn, if_neg h48, if_neg h64, if_pos h128]
    rw [e]
    have b3 : (b.toNat : Int) < 128 := by omega
    clear hz
    go_enter Tryd.func31, Tryd.ntmps31
    go_wp2_with fail
    refine (HX w).mono ?_
    rintro e w1 ⟨rfl, rfl⟩
    go_wp2_with fail
    refine (mkCsi_any p s cur b w HH.out).mono ?_
    rintro e w1 ⟨o, cap, rfl, hact, hb⟩
    have HB := Lib.hid hb
    have HB' := Lib.hid (hb.mono hBw)
    have HC := Lib.hid hact
    clear hb hact
    go_wp2_with fail
    refine (say_any p B s cur V l (es.csi s b) o cap w1 (HH.out.below HB.out hpw) (HA.out.below HB.out) hl hpB (Nat.le_trans hBw HB.out.size) (HC.out.mono hBw)).mono ?_
    rintro e w2 ⟨V', rfl, r1, r2, r3⟩
    go_wp2_with fail
    go_ret
    exact ⟨_, rfl, r1, r2, (Kept.fr_below HB'.out).fr_trans r3⟩
  · have e : es.inControl s b = ({}, []) := by unfold es.inControl; rw [if_neg hxn, if_neg h48, if_neg h64, if_neg h128]
    rw [e, List.append_nil]
    have b3 : decide ((b.toNat : Int) < 128) = false := decide_eq_false (by omega)
    go_enter Tryd.func31, Tryd.ntmps31
    go_wp2_with fail
    refine (HX w).mono ?_
    rintro e w1 ⟨rfl, rfl⟩
    go_wp2_with fail
    go_ret
    exact ⟨_, rfl, HAK.out _ (HKR.out _), ⟨_, HZ.out⟩, (HKR.out _).fr⟩
end Go.Proofs.YtgkodjkhhmcnnaaDoor
namespace Go.Proofs.YtgkodjkhhmcnnaaDoor
open Go.RowKit

theorem beginsString_any (b : UInt8) (w : World) : Calls Tryd.prog 57 #[.int .u8 b.toNat] w fun e w' => e = .returned (.bool (es.beginsString b)) ∧ w = w' := by
  by_cases h : b.toNat = 93 ∨ b.toNat = 80 ∨ b.toNat = 88 ∨ b.toNat = 94 ∨ b.toNat = 95
  · have e : es.beginsString b = true := by unfold es.beginsString; exact decide_eq_true h
    rw [e]
    rcases h with h | h | h | h | h
    all_goals
      rw [show (b.toNat : Int) = _ from congrArg Nat.cast h]
      go_enter Tryd.func57, Tryd.ntmps57
      go_wp2_with fail
      go_ret
      exact ⟨rfl, rfl⟩
  · have e : es.beginsString b = false := by unfold es.beginsString; exact decide_eq_false h
    rw [e]
    have b1 : ((b.toNat : Int) == 93) = false := by simp; omega
    have b2 : ((b.toNat : Int) == 80) = false := by simp; omega
    have b3 : ((b.toNat : Int) == 88) = false := by simp; omega
    have b4 : ((b.toNat : Int) == 94) = false := by simp; omega
    have b5 : ((b.toNat : Int) == 95) = false := by simp; omega
    go_enter Tryd.func57, Tryd.ntmps57
    go_wp2_with fail
    go_ret
    exact ⟨rfl, rfl⟩
set_option maxRecDepth 100000 in
set_option maxHeartbeats 1600000 in
theorem inEscape_any (p B : Nat) (s : es.St) (cur : Array Value) (V : Value) (l : List es.Act) (b : UInt8) (w : World) (h : PsAt w p s cur) (ha : ActsAt w B V l) (hl : l.length ≤ 1099511627776) (hpB : p < B) (hBw : B ≤ w.heap.size) (hil : s.inter.length ≤ 2) :
    Calls Tryd.prog 30 #[.pointer (some ⟨p, 0, none⟩), V, .int .u8 b.toNat] w fun e w' => ∃ V', e = .returned V' ∧ ActsAt w' B V' (l ++ (es.inEscape s b).2) ∧ (∃ cur', PsAt w' p (es.inEscape s b).1 cur') ∧ Kept w w' (Fr p B) := by
  have hz := run_zero p s cur w h
  have c0 : w.cell? ⟨p, 0, none⟩ = some (.int .i64 s.state) := (h.c 0).trans h.is.st
  have f0 := h.f 0
  have c7 : w.cell? ⟨p, 7, none⟩ = some (.int .u8 s.final) := (h.c 7).trans h.is.final
  have f7 := h.f 7
  have hpw := h.lt
  have HA := Lib.hid ha
  have HH := Lib.hid h
  have HZ := Lib.hid (row_at h zero_is)
  have HKR := Lib.hid (fun c => (Kept.refl w (· = p)).setRow (fun _ => rfl) c)
  have HAK := Lib.hid (fun w' (hk : Kept w w' (· = p)) => ha.kept hk (fun k hk e => by omega))
  have HX := isText_any b
  clear h ha
  cases hx : es.isText b with
  | false =>
    rw [hx] at HX
    have e : es.inEscape s b = es.command s b := by unfold es.inEscape; rw [if_pos hx]
    rw [e]
    clear hz
    go_enter Tryd.func30, Tryd.ntmps30
    go_wp2_with fail
    refine (HX w).mono ?_
    rintro e w1 ⟨rfl, rfl⟩
    go_wp2_with fail
    refine (command_any p B s cur V l b w HH.out HA.out hl hpB hBw).mono ?_
    rintro e w2 ⟨V', rfl, r1, r2, r3⟩
    go_wp2_with fail
    go_ret
    exact ⟨_, rfl, r1, r2, r3⟩
  | true =>
  rw [hx] at HX
  have hxn : ¬ es.isText b = false := by rw [hx]; simp
  by_cases h48 : b.toNat < 48
  · have e : es.inEscape s b = (es.addInter s b, []) := by unfold es.inEscape; rw [if_neg hxn, if_pos h48]
    rw [e, List.append_nil]
    have b1 : (b.toNat : Int) < 48 := by omega
    clear hz
    go_enter Tryd.func30, Tryd.ntmps30
    go_wp2_with fail
    refine (HX w).mono ?_
    rintro e w1 ⟨rfl, rfl⟩
    go_wp2_with fail
    refine (addInter_any p s cur b w HH.out hil).mono ?_
    rintro e w1 ⟨rfl, r1, r2⟩
    go_wp2_with fail
    go_ret
    exact ⟨_, rfl, HAK.out _ r2, r1, r2.fr⟩
  have b1 : decide ((b.toNat : Int) < 48) = false := decide_eq_false (by omega)
  by_cases h128 : 128 ≤ b.toNat
  · have e : es.inEscape s b = ({}, []) := by unfold es.inEscape; rw [if_neg hxn, if_neg h48, if_pos h128]
    rw [e, List.append_nil]
    have b2 : (128 : Int) ≤ (b.toNat : Int) := by omega
    go_enter Tryd.func30, Tryd.ntmps30
    go_wp2_with fail
    refine (HX w).mono ?_
    rintro e w1 ⟨rfl, rfl⟩
    go_wp2_with fail
    go_ret
    exact ⟨_, rfl, HAK.out _ (HKR.out _), ⟨_, HZ.out⟩, (HKR.out _).fr⟩
  have b2 : decide ((128 : Int) ≤ (b.toNat : Int)) = false := decide_eq_false (by omega)
  clear hz
  have c8 : w.cell? ⟨p, 8, none⟩ = some (.string ⟨s.inter.toArray⟩) := (HH.out.c 8).trans HH.out.is.inter
  cases hi : s.inter with
  | cons x m =>
    have e : es.inEscape s b = es.say s (es.esc s b) := by unfold es.inEscape; rw [if_neg hxn, if_neg h48, if_neg h128, if_neg (by rw [hi]; simp), if_neg (by rw [hi]; simp)]
    rw [e]
    rw [hi] at c8
    go_enter Tryd.func30, Tryd.ntmps30
    go_wp2_with fail
    refine (HX w).mono ?_
    rintro e w1 ⟨rfl, rfl⟩
    go_wp2_with fail
    refine (mkEsc_any p s cur b w HH.out).mono ?_
    rintro e w1 ⟨rfl, hb⟩
    have HB := Lib.hid hb
    have HB' := Lib.hid (hb.mono hBw)
    clear hb
    go_wp2_with fail
    refine (say_any p B s cur V l (es.esc s b) none 0 w1 (HH.out.below HB.out hpw) (HA.out.below HB.out) hl hpB (Nat.le_trans hBw HB.out.size) (act1_none w1 B (es.esc s b) rfl)).mono ?_
    rintro e w2 ⟨V', rfl, r1, r2, r3⟩
    go_wp2_with fail
    go_ret
    exact ⟨_, rfl, r1, r2, (Kept.fr_below HB'.out).fr_trans r3⟩
  | nil =>
    rw [hi] at c8
    have c8' : w.cell? ⟨p, 8, none⟩ = some (.string ⟨#[]⟩) := c8
    clear c8
    by_cases h91 : b.toNat = 91
    · have e : es.inEscape s b = ({ s with state := 2 }, []) := by unfold es.inEscape; rw [if_neg hxn, if_neg h48, if_neg h128, if_pos ⟨hi, h91⟩]
      rw [e, List.append_nil]
      have H91 := Lib.hid h91
      clear h91 e
      have HS := Lib.hid (And.intro (HH.out.set 0 (.int .i64 2) (HH.out.is.setState 2)) ((Kept.refl w (· = p)).setCell (p := ⟨p, 0, none⟩) (fun _ => rfl) (.int .i64 2)))
      go_enter Tryd.func30, Tryd.ntmps30
      go_wp2_with fail
      refine (HX w).mono ?_
      rintro e w1 ⟨rfl, rfl⟩
      have b3 : ((b.toNat : Int) == 91) = true := by have := H91.out; simp; omega
      go_wp2_with fail
      go_ret
      exact ⟨_, rfl, HAK.out _ HS.out.2, ⟨_, HS.out.1⟩, HS.out.2.fr⟩
    have b3 : ((b.toNat : Int) == 91) = false := by simp; omega
    cases hbs : es.beginsString b with
    | true =>
      have e : es.inEscape s b = ({ s with state := 3, final := b.toNat }, []) := by unfold es.inEscape; rw [if_neg hxn, if_neg h48, if_neg h128, if_neg (fun h => h91 h.2), if_pos ⟨hi, hbs⟩]
      rw [e, List.append_nil]
      have HBS := Lib.hid (beginsString_any b)
      rw [hbs] at HBS
      have HS : Hid ((∃ cur', PsAt ((w.setCell ⟨p, 0, none⟩ (.int .i64 3)).setCell ⟨p, 7, none⟩ (.int .u8 b.toNat)) p { s with state := 3, final := b.toNat } cur') ∧ Kept w ((w.setCell ⟨p, 0, none⟩ (.int .i64 3)).setCell ⟨p, 7, none⟩ (.int .u8 b.toNat)) (· = p)) := Lib.hid ⟨⟨_, HH.out.set2 0 7 (.int .i64 3) (.int .u8 b.toNat) ((HH.out.is.setState 3).setFinal b.toNat)⟩, ((Kept.refl w (· = p)).setCell (p := ⟨p, 0, none⟩) (fun _ => rfl) (.int .i64 3)).setCell (p := ⟨p, 7, none⟩) (fun _ => rfl) (.int .u8 b.toNat)⟩
      go_enter Tryd.func30, Tryd.ntmps30
      go_wp2_with fail
      refine (HX w).mono ?_
      rintro e w1 ⟨rfl, rfl⟩
      go_wp2_with fail
      refine (HBS.out w).mono ?_
      rintro e w1 ⟨rfl, rfl⟩
      go_wp2_with fail
      go_ret
      exact ⟨_, rfl, HAK.out _ HS.out.2, HS.out.1, HS.out.2.fr⟩
    | false =>
      have e : es.inEscape s b = es.say s (es.esc s b) := by unfold es.inEscape; rw [if_neg hxn, if_neg h48, if_neg h128, if_neg (fun h => h91 h.2), if_neg (by rw [hbs]; simp)]
      rw [e]
      have HBS := Lib.hid (beginsString_any b)
      rw [hbs] at HBS
      go_enter Tryd.func30, Tryd.ntmps30
      go_wp2_with fail
      refine (HX w).mono ?_
      rintro e w1 ⟨rfl, rfl⟩
      go_wp2_with fail
      refine (HBS.out w).mono ?_
      rintro e w1 ⟨rfl, rfl⟩
      go_wp2_with fail
      refine (mkEsc_any p s cur b w HH.out).mono ?_
      rintro e w1 ⟨rfl, hb⟩
      have HB := Lib.hid hb
      have HB' := Lib.hid (hb.mono hBw)
      clear hb
      go_wp2_with fail
      refine (say_any p B s cur V l (es.esc s b) none 0 w1 (HH.out.below HB.out hpw) (HA.out.below HB.out) hl hpB (Nat.le_trans hBw HB.out.size) (act1_none w1 B (es.esc s b) rfl)).mono ?_
      rintro e w2 ⟨V', rfl, r1, r2, r3⟩
      go_wp2_with fail
      go_ret
      exact ⟨_, rfl, r1, r2, (Kept.fr_below HB'.out).fr_trans r3⟩
end Go.Proofs.YtgkodjkhhmcnnaaDoor
namespace Go.Proofs.YtgkodjkhhmcnnaaDoor
open Go.RowKit

set_option maxRecDepth 100000 in
set_option maxHeartbeats 1600000 in
theorem inClosing_any (p B : Nat) (s : es.St) (cur : Array Value) (V : Value) (l : List es.Act) (b : UInt8) (w : World) (h : PsAt w p s cur) (ha : ActsAt w B V l) (hl : l.length ≤ 1099511627776) (hpB : p < B) (hBw : B ≤ w.heap.size) :
    Calls Tryd.prog 33 #[.pointer (some ⟨p, 0, none⟩), V, .int .u8 b.toNat] w fun e w' => ∃ V', e = .returned V' ∧ ActsAt w' B V' (l ++ (es.inClosing s b).2) ∧ (∃ cur', PsAt w' p (es.inClosing s b).1 cur') ∧ Kept w w' (Fr p B) := by
  have hz := run_esc p s cur w h
  have hpw := h.lt
  have HA := Lib.hid ha
  have HH := Lib.hid h
  have HE := Lib.hid (row_at h esc_is)
  have HKR := Lib.hid ((Kept.refl w (· = p)).setRow (fun _ => rfl) escC)
  have HAK := Lib.hid (fun w' (hk : Kept w w' (· = p)) => ha.kept hk (fun k hk e => by omega))
  clear h ha
  by_cases h92 : b.toNat = 92
  · have e : es.inClosing s b = es.say s (es.str s) := by unfold es.inClosing; rw [if_pos h92]
    rw [e, show (b.toNat : Int) = _ from congrArg Nat.cast h92]
    clear hz
    go_enter Tryd.func33, Tryd.ntmps33
    go_wp2_with fail
    refine (mkStr_any p s cur w HH.out).mono ?_
    rintro e w1 ⟨rfl, hb⟩
    have HB := Lib.hid hb
    have HB' := Lib.hid (hb.mono hBw)
    clear hb
    go_wp2_with fail
    refine (say_any p B s cur V l (es.str s) none 0 w1 (HH.out.below HB.out hpw) (HA.out.below HB.out) hl hpB (Nat.le_trans hBw HB.out.size) (act1_none w1 B (es.str s) rfl)).mono ?_
    rintro e w2 ⟨V', rfl, r1, r2, r3⟩
    go_wp2_with fail
    go_ret
    exact ⟨_, rfl, r1, r2, (Kept.fr_below HB'.out).fr_trans r3⟩
  · have e : es.inClosing s b = es.inEscape { state := 1 } b := by unfold es.inClosing; rw [if_neg h92]
    rw [e]
    have b1 : ((b.toNat : Int) == 92) = false := by simp; omega
    have HIN := Lib.hid (inEscape_any p B { state := 1 } escC V l b (w.setRow p escC) HE.out (HAK.out _ HKR.out) hl hpB (by rw [setRow_size]; exact hBw) (by simp))
    go_enter Tryd.func33, Tryd.ntmps33
    go_wp2_with fail
    refine HIN.out.mono ?_
    rintro e w2 ⟨V', rfl, r1, r2, r3⟩
    go_wp2_with fail
    go_ret
    exact ⟨_, rfl, r1, r2, HKR.out.fr.fr_trans r3⟩
end Go.Proofs.YtgkodjkhhmcnnaaDoor
namespace Go.Proofs.YtgkodjkhhmcnnaaDoor
open Go.RowKit

theorem Own.mono {w : World} {B B' : Nat} {e : TypeId} {K : IntKind} {o : Option Addr} {n cap : Nat} {xs : List Int} (h : Own w B' e K o n cap xs) (hB : B ≤ B') : Own w B e K o n cap xs := h.base hB
set_option maxRecDepth 100000 in
set_option maxHeartbeats 1600000 in
theorem inGround_any (p B : Nat) (s : es.St) (cur : Array Value) (V : Value) (l : List es.Act) (b : UInt8) (w : World) (h : PsAt w p s cur) (ha : ActsAt w B V l) (hl : l.length ≤ 1099511627000) (hpB : p < B) (hBw : B ≤ w.heap.size) (ht : UTabs w)
    (hrl : (gl.read (s.wait ++ [b])).1.length ≤ 4) :
    Calls Tryd.prog 34 #[.pointer (some ⟨p, 0, none⟩), V, .int .u8 b.toNat] w fun e w' => ∃ V', e = .returned V' ∧ ActsAt w' B V' (l ++ (es.inGround s b).2) ∧ (∃ cur', PsAt w' p (es.inGround s b).1 cur') ∧ Kept w w' (Fr p B) := by
  have hpw := h.lt
  have hfw := h.is.few
  have HX := isText_any b
  cases hx : es.isText b with
  | true =>
    rw [hx] at HX
    have e : es.inGround s b = ({ s with wait := (gl.read (s.wait ++ [b])).2 }, (gl.read (s.wait ++ [b])).1.map es.print) := by unfold es.inGround; rw [if_pos hx]
    rw [e]
    have hb0 : Below w.heap.size w (w.alloc (.cells #[.int .u8 b.toNat] 5)) := (Below.refl _ _).alloc (Nat.le_refl _) _
    have h0 := h.alloc (.cells #[.int .u8 b.toNat] 5)
    have HF := Lib.hid (feed_any p 1 s.wait [b] cur 33 (some ⟨w.heap.size, 0, none⟩) 1 1 _ h0.rd (nums_one w b.toNat 5) (ht.step hb0) (by omega))
    have HI := Lib.hid h.is
    have HA0 := Lib.hid (ha.below hb0)
    have HB0 := Lib.hid (hb0.mono hBw)
    clear h ha h0 ht hb0
    go_enter Tryd.func34, Tryd.ntmps34
    go_wp2_with fail
    refine (HX w).mono ?_
    rintro e w1 ⟨rfl, rfl⟩
    go_wp2_with fail
    refine HF.out.mono ?_
    rintro e w1 ⟨ro, m, rc, cur1, rfl, hO, hR, hs, ho, hk⟩
    have hm : m ≤ 4 := by have := hO.len; omega
    have HO := Lib.hid (hO.mono (show B ≤ _ by simp; omega))
    have HP := Lib.hid (PsAt.reader HI.out hR hs ho)
    have HA1 := Lib.hid (HA0.out.kept hk (fun k hk e => by omega))
    have HK := Lib.hid ((Kept.fr_below (p := p) HB0.out).fr_trans hk.fr)
    have hsz := hk.size
    clear hO hR hs ho hk
    go_wp2_with fail
    refine (prints_any B V l ro m rc _ w1 HA1.out HO.out (by omega) (by simp at hsz; omega)).mono ?_
    rintro e w2 ⟨V', rfl, r1, r2⟩
    go_wp2_with fail
    go_ret
    exact ⟨_, rfl, r1, ⟨_, HP.out.below r2 hpB⟩, HK.out.fr_trans (Kept.fr_below r2)⟩
  | false =>
    rw [hx] at HX
    have e : es.inGround s b = ((es.command { s with wait := [] } b).1, List.replicate s.wait.length (es.print 65533) ++ (es.command { s with wait := [] } b).2) := by unfold es.inGround; rw [if_neg (by rw [hx]; simp)]
    rw [e]
    have HF := Lib.hid (rest_any p 1 s.wait cur 33 w h.rd)
    have HI := Lib.hid h.is
    have HA0 := Lib.hid ha
    clear h ha ht
    go_enter Tryd.func34, Tryd.ntmps34
    go_wp2_with fail
    refine (HX w).mono ?_
    rintro e w1 ⟨rfl, rfl⟩
    go_wp2_with fail
    refine HF.out.mono ?_
    rintro e w1 ⟨ro, rc, cur1, rfl, hO, hR, hs, ho, hk⟩
    have HO := Lib.hid (hO.mono hBw)
    have HP := Lib.hid (PsAt.reader HI.out hR hs ho)
    have HA1 := Lib.hid (HA0.out.kept hk (fun k hk e => by omega))
    have HK := Lib.hid (Kept.fr (B := B) hk)
    have hsz := hk.size
    clear hO hR hs ho hk
    go_wp2_with fail
    refine (prints_any B V l ro s.wait.length rc _ w1 HA1.out HO.out (by omega) (by omega)).mono ?_
    rintro e w2 ⟨V', rfl, r1, r2⟩
    have hsz2 := r2.size
    rw [List.map_replicate] at r1
    have HA2 := Lib.hid r1
    have HP2 := Lib.hid (HP.out.below r2 hpB)
    have HK2 := Lib.hid (HK.out.fr_trans (Kept.fr_below r2))
    clear r1 r2
    go_wp2_with fail
    refine (command_any p B _ _ V' _ b w2 HP2.out HA2.out (by simp; omega) hpB (by omega)).mono ?_
    rintro e w3 ⟨V3, rfl, r1, r2, r3⟩
    go_wp2_with fail
    go_ret
    exact ⟨_, rfl, by rw [← List.append_assoc]; exact r1, r2, HK2.out.fr_trans r3⟩
end Go.Proofs.YtgkodjkhhmcnnaaDoor
