/- inControl. -/
import Derived.Test.YtijfpfkmfibjjaaDoorEscStr
namespace Go.Proofs.YtijfpfkmfibjjaaDoor
open Go.RowKit

theorem Act1.mono {w : World} {B B' : Nat} {a : es.Act} {o : Option Addr} {cap : Nat} (h : Act1 w B' a o cap) (hB : B ≤ B') : Act1 w B a o cap := ⟨h.nums, fun h0 d hd => ⟨Nat.le_trans hB (h.own h0 d hd).1, (h.own h0 d hd).2⟩⟩
set_option maxRecDepth 100000 in
set_option maxHeartbeats 1600000 in
theorem inControl_any (p B : Nat) (s : es.St) (cur : Array Value) (V : Value) (l : List es.Act) (b : UInt8) (w : World) (h : PsAt w p s cur) (ha : ActsAt w B V l) (hl : l.length ≤ 1099511627776) (hpB : p < B) (hBw : B ≤ w.heap.size) (hil : s.inter.length ≤ 2) (hn : es.Nums s) :
    Calls Tryd.prog 29 #[.pointer (some ⟨p, 0, none⟩), V, .int .u8 b.toNat] w fun e w' => ∃ V', e = .returned V' ∧ ActsAt w' B V' (l ++ (es.inControl s b).2) ∧ (∃ cur', PsAt w' p (es.inControl s b).1 cur') ∧ Kept w w' (Fr p B) := by
  have hz := run_zero p s cur w h
  have c0 : w.cell? ⟨p, 0, none⟩ = some (.int .i64 s.state) := (h.c 0).trans h.is.st
  have f0 := h.f 0
  have c7 : w.cell? ⟨p, 7, none⟩ = some (.int .u8 s.final) := (h.c 7).trans h.is.final
  have f7 := h.f 7
  have hpw := h.lt
  have HA := Lib.hid ha
  have HH := Lib.hid h
  have HZ := Lib.hid (row_at h zero_is)
  have HKR := Lib.hid (fun c => (Kept.refl w (· = p)).setRow (fun _ => rfl) c)
  have HAK := Lib.hid (fun w' (hk : Kept w w' (· = p)) => ha.kept hk (fun k hk e => by omega))
  have HX := isText_any b
  clear h ha
  cases hx : es.isText b with
  | false =>
    rw [hx] at HX
    have e : es.inControl s b = es.command s b := by unfold es.inControl; rw [if_pos hx]
    rw [e]
    clear hz
    go_enter Tryd.func29, Tryd.ntmps29
    go_wp2_with fail
    refine (HX w).mono ?_
    rintro e w1 ⟨rfl, rfl⟩
    go_wp2_with fail
    refine (command_any p B s cur V l b w HH.out HA.out hl hpB hBw).mono ?_
    rintro e w2 ⟨V', rfl, r1, r2, r3⟩
    go_wp2_with fail
    go_ret
    exact ⟨_, rfl, r1, r2, r3⟩
  | true =>
  rw [hx] at HX
  have hxn : ¬ es.isText b = false := by rw [hx]; simp
  by_cases h48 : b.toNat < 48
  · have e : es.inControl s b = (es.addInter s b, []) := by unfold es.inControl; rw [if_neg hxn, if_pos h48]
    rw [e, List.append_nil]
    have b1 : (b.toNat : Int) < 48 := by omega
    clear hz
    go_enter Tryd.func29, Tryd.ntmps29
    go_wp2_with fail
    refine (HX w).mono ?_
    rintro e w1 ⟨rfl, rfl⟩
    go_wp2_with fail
    refine (addInter_any p s cur b w HH.out hil).mono ?_
    rintro e w1 ⟨rfl, r1, r2⟩
    go_wp2_with fail
    go_ret
    exact ⟨_, rfl, HAK.out _ r2, r1, r2.fr⟩
  have b1 : decide ((b.toNat : Int) < 48) = false := decide_eq_false (by omega)
  by_cases h64 : b.toNat < 64
  · have e : es.inControl s b = (es.addParam s b, []) := by unfold es.inControl; rw [if_neg hxn, if_neg h48, if_pos h64]
    rw [e, List.append_nil]
    have b2 : (b.toNat : Int) < 64 := by omega
    have HPA := Lib.hid (addParam_any p s cur b w HH.out (by omega) h64 hn)
    clear hz
    go_enter Tryd.func29, Tryd.ntmps29
    go_wp2_with fail
    refine (HX w).mono ?_
    rintro e w1 ⟨rfl, rfl⟩
    go_wp2_with fail
    refine HPA.out.mono ?_
    rintro e w1 ⟨rfl, r1, r2⟩
    go_wp2_with fail
    go_ret
    exact ⟨_, rfl, HAK.out _ r2, r1, r2.fr⟩
  have b2 : decide ((b.toNat : Int) < 64) = false := decide_eq_false (by omega)
  by_cases h128 : b.toNat < 128
  · have e : es.inControl s b = es.say s (es.csi s b) := by unfold es.inControl; rw [if_neg hxn, if_neg h48, if_neg h64, if_pos h128]
    rw [e]
    have b3 : (b.toNat : Int) < 128 := by omega
    clear hz
    go_enter Tryd.func29, Tryd.ntmps29
    go_wp2_with fail
    refine (HX w).mono ?_
    rintro e w1 ⟨rfl, rfl⟩
    go_wp2_with fail
    refine (mkCsi_any p s cur b w HH.out).mono ?_
    rintro e w1 ⟨o, cap, rfl, hact, hb⟩
    have HB := Lib.hid hb
    have HB' := Lib.hid (hb.mono hBw)
    have HC := Lib.hid hact
    clear hb hact
    go_wp2_with fail
    refine (say_any p B s cur V l (es.csi s b) o cap w1 (HH.out.below HB.out hpw) (HA.out.below HB.out) hl hpB (Nat.le_trans hBw HB.out.size) (HC.out.mono hBw)).mono ?_
    rintro e w2 ⟨V', rfl, r1, r2, r3⟩
    go_wp2_with fail
    go_ret
    exact ⟨_, rfl, r1, r2, (Kept.fr_below HB'.out).fr_trans r3⟩
  · have e : es.inControl s b = ({}, []) := by unfold es.inControl; rw [if_neg hxn, if_neg h48, if_neg h64, if_neg h128]
    rw [e, List.append_nil]
    have b3 : decide ((b.toNat : Int) < 128) = false := decide_eq_false (by omega)
    go_enter Tryd.func29, Tryd.ntmps29
    go_wp2_with fail
    refine (HX w).mono ?_
    rintro e w1 ⟨rfl, rfl⟩
    go_wp2_with fail
    go_ret
    exact ⟨_, rfl, HAK.out _ (HKR.out _), ⟨_, HZ.out⟩, (HKR.out _).fr⟩
end Go.Proofs.YtijfpfkmfibjjaaDoor
