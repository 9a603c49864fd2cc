/- addParam. -/
import Derived.Test.YtijfpfkmfibjjaaDoorEscSeq3
namespace Go.Proofs.YtijfpfkmfibjjaaDoor
open Go.RowKit

set_option maxRecDepth 100000 in
set_option maxHeartbeats 1600000 in
theorem addParam_any (p : Nat) (s : es.St) (cur : Array Value) (b : UInt8) (w : World) (h : PsAt w p s cur) (hb48 : 48 ≤ b.toNat) (hb64 : b.toNat < 64) (hn : es.Nums s) :
    Calls Tryd.prog 48 #[.pointer (some ⟨p, 5, none⟩), .int .u8 b.toNat] w fun e w' => e = .returned (.tuple #[]) ∧ (∃ cur', PsAt w' p (es.addParam s b) cur') ∧ Kept w w' (· = p) := by
  have c1 : w.cell? ⟨p, 5, none⟩ = some (.bool s.spoiled) := (h.c 5).trans h.is.spoiled
  have c2 : w.cell? ⟨p, 6, none⟩ = some (.int .u8 s.priv) := (h.c 6).trans h.is.priv
  have c3 : w.cell? ⟨p, 26, none⟩ = some (.int .i64 (s.params.length : Nat)) := (h.c 26).trans h.is.cnt
  have f1 := h.f 5
  have f2 := h.f 6
  have HSP : Hid (∃ cur', PsAt (w.setCell ⟨p, 5, none⟩ (.bool true)) p { s with spoiled := true } cur') := Lib.hid ⟨_, h.set 5 (.bool true) h.is.setSpoiled⟩
  have HPR : Hid (∃ cur', PsAt (w.setCell ⟨p, 6, none⟩ (.int .u8 b.toNat)) p { s with priv := b.toNat } cur') := Lib.hid ⟨_, h.set 6 (.int .u8 b.toNat) (h.is.setPriv b.toNat)⟩
  have HK := Lib.hid (fun i v => (Kept.refl w (· = p)).setCell (p := ⟨p, i, none⟩) (fun _ => rfl) v)
  cases hi : s.inter with
  | cons x l =>
    have c0 : w.cell? ⟨p, 8, none⟩ = some (.string ⟨(x :: l).toArray⟩) := by rw [h.c 8, h.is.inter, hi]
    have e : es.addParam s b = { s with spoiled := true } := by unfold es.addParam; rw [if_pos (by rw [hi]; simp)]
    rw [e]
    clear h hn
    go_enter Tryd.func48, Tryd.ntmps48
    go_wp2_with fail
    go_end0
    exact ⟨rfl, HSP.out, HK.out 5 _⟩
  | nil =>
    have c0 : w.cell? ⟨p, 8, none⟩ = some (.string ⟨#[]⟩) := by rw [h.c 8, h.is.inter, hi]
    have hi' : ¬ (s.inter ≠ []) := by rw [hi]; simp
    by_cases h58 : b.toNat = 58
    · have hb58 : ((b.toNat : Int) == 58) = true := by simp; omega
      have e : es.addParam s b = { s with spoiled := true } := by unfold es.addParam; rw [if_pos (.inr h58)]
      rw [e]
      clear h hn
      go_enter Tryd.func48, Tryd.ntmps48
      go_wp2_with fail
      go_end0
      exact ⟨rfl, HSP.out, HK.out 5 _⟩
    · have hb58 : ((b.toNat : Int) == 58) = false := by simp; omega
      have hor : ¬ (s.inter ≠ [] ∨ b.toNat = 58) := fun h => h.elim hi' h58
      by_cases h59 : b.toNat ≤ 59
      · have hb59 : (b.toNat : Int) ≤ 59 := by omega
        have HN := Lib.hid (addNumber_any p s cur b w h hb48 h59 hn)
        have e : es.addParam s b = es.addNumber s b := by unfold es.addParam; rw [if_neg hor, if_pos h59]
        rw [e]
        clear h hn e
        go_enter Tryd.func48, Tryd.ntmps48
        go_wp2_with fail
        refine HN.out.mono ?_
        rintro e w1 ⟨rfl, h1, hk1⟩
        go_wp2_with fail
        go_end0
        exact ⟨rfl, h1, hk1⟩
      · have hb59 : decide ((b.toNat : Int) ≤ 59) = false := decide_eq_false (by omega)
        by_cases hD : s.params.length = 0 ∧ s.priv = 0 ∧ s.spoiled = false
        · have e : es.addParam s b = { s with priv := b.toNat } := by unfold es.addParam; rw [if_neg hor, if_neg h59, if_pos hD]
          rw [e]
          obtain ⟨d1, d2, d3⟩ := hD
          have c1' : w.cell? ⟨p, 5, none⟩ = some (.bool false) := by rw [c1, d3]
          have c2' : w.cell? ⟨p, 6, none⟩ = some (.int .u8 0) := by rw [c2, d2]; rfl
          have c3' : w.cell? ⟨p, 26, none⟩ = some (.int .i64 0) := by rw [c3, d1]; rfl
          clear h hn c1 c2 c3
          go_enter Tryd.func48, Tryd.ntmps48
          go_wp2_with fail
          go_end0
          exact ⟨rfl, HPR.out, HK.out 6 _⟩
        · have e : es.addParam s b = { s with spoiled := true } := by unfold es.addParam; rw [if_neg hor, if_neg h59, if_neg hD]
          rw [e]
          clear h hn
          by_cases d1 : s.params.length = 0
          · have c3' : w.cell? ⟨p, 26, none⟩ = some (.int .i64 0) := by rw [c3, d1]; rfl
            by_cases d2 : s.priv = 0
            · have c2' : w.cell? ⟨p, 6, none⟩ = some (.int .u8 0) := by rw [c2, d2]; rfl
              have c1' : w.cell? ⟨p, 5, none⟩ = some (.bool true) := by rw [c1]; cases hs : s.spoiled <;> simp_all
              clear c1 c2 c3
              go_enter Tryd.func48, Tryd.ntmps48
              go_wp2_with fail
              go_end0
              exact ⟨rfl, HSP.out, HK.out 5 _⟩
            · have dd : ((s.priv : Int) == 0) = false := by simp; intro h; exact d2 (by omega)
              clear c3
              go_enter Tryd.func48, Tryd.ntmps48
              go_wp2_with fail
              go_end0
              exact ⟨rfl, HSP.out, HK.out 5 _⟩
          · have dd : ((s.params.length : Int) == 0) = false := by simp; intro h; exact d1 (by rw [h]; rfl)
            go_enter Tryd.func48, Tryd.ntmps48
            go_wp2_with fail
            go_end0
            exact ⟨rfl, HSP.out, HK.out 5 _⟩
end Go.Proofs.YtijfpfkmfibjjaaDoor
