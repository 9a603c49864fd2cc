/- inGround. -/
import Derived.Test.YtijfpfkmfibjjaaDoorEscClose
namespace Go.Proofs.YtijfpfkmfibjjaaDoor
open Go.RowKit

theorem Own.mono {w : World} {B B' : Nat} {e : TypeId} {K : IntKind} {o : Option Addr} {n cap : Nat} {xs : List Int} (h : Own w B' e K o n cap xs) (hB : B ≤ B') : Own w B e K o n cap xs := h.base hB
set_option maxRecDepth 100000 in
set_option maxHeartbeats 1600000 in
theorem inGround_any (p B : Nat) (s : es.St) (cur : Array Value) (V : Value) (l : List es.Act) (b : UInt8) (w : World) (h : PsAt w p s cur) (ha : ActsAt w B V l) (hl : l.length ≤ 1099511627000) (hpB : p < B) (hBw : B ≤ w.heap.size) (ht : UTabs w)
    (hrl : (gl.read (s.wait ++ [b])).1.length ≤ 4) :
    Calls Tryd.prog 32 #[.pointer (some ⟨p, 0, none⟩), V, .int .u8 b.toNat] w fun e w' => ∃ V', e = .returned V' ∧ ActsAt w' B V' (l ++ (es.inGround s b).2) ∧ (∃ cur', PsAt w' p (es.inGround s b).1 cur') ∧ Kept w w' (Fr p B) := by
  have hpw := h.lt
  have hfw := h.is.few
  have HX := isText_any b
  cases hx : es.isText b with
  | true =>
    rw [hx] at HX
    have e : es.inGround s b = ({ s with wait := (gl.read (s.wait ++ [b])).2 }, (gl.read (s.wait ++ [b])).1.map es.print) := by unfold es.inGround; rw [if_pos hx]
    rw [e]
    have hb0 : Below w.heap.size w (w.alloc (.cells #[.int .u8 b.toNat] 5)) := (Below.refl _ _).alloc (Nat.le_refl _) _
    have h0 := h.alloc (.cells #[.int .u8 b.toNat] 5)
    have HF := Lib.hid (feed_any p 1 s.wait [b] cur 33 (some ⟨w.heap.size, 0, none⟩) 1 1 _ h0.rd (nums_one w b.toNat 5) (ht.step hb0) (by omega))
    have HI := Lib.hid h.is
    have HA0 := Lib.hid (ha.below hb0)
    have HB0 := Lib.hid (hb0.mono hBw)
    clear h ha h0 ht hb0
    go_enter Tryd.func32, Tryd.ntmps32
    go_wp2_with fail
    refine (HX w).mono ?_
    rintro e w1 ⟨rfl, rfl⟩
    go_wp2_with fail
    refine HF.out.mono ?_
    rintro e w1 ⟨ro, m, rc, cur1, rfl, hO, hR, hs, ho, hk⟩
    have hm : m ≤ 4 := by have := hO.len; omega
    have HO := Lib.hid (hO.mono (show B ≤ _ by simp; omega))
    have HP := Lib.hid (PsAt.reader HI.out hR hs ho)
    have HA1 := Lib.hid (HA0.out.kept hk (fun k hk e => by omega))
    have HK := Lib.hid ((Kept.fr_below (p := p) HB0.out).fr_trans hk.fr)
    have hsz := hk.size
    clear hO hR hs ho hk
    go_wp2_with fail
    refine (prints_any B V l ro m rc _ w1 HA1.out HO.out (by omega) (by simp at hsz; omega)).mono ?_
    rintro e w2 ⟨V', rfl, r1, r2⟩
    go_wp2_with fail
    go_ret
    exact ⟨_, rfl, r1, ⟨_, HP.out.below r2 hpB⟩, HK.out.fr_trans (Kept.fr_below r2)⟩
  | false =>
    rw [hx] at HX
    have e : es.inGround s b = ((es.command { s with wait := [] } b).1, List.replicate s.wait.length (es.print 65533) ++ (es.command { s with wait := [] } b).2) := by unfold es.inGround; rw [if_neg (by rw [hx]; simp)]
    rw [e]
    have HF := Lib.hid (rest_any p 1 s.wait cur 33 w h.rd)
    have HI := Lib.hid h.is
    have HA0 := Lib.hid ha
    clear h ha ht
    go_enter Tryd.func32, Tryd.ntmps32
    go_wp2_with fail
    refine (HX w).mono ?_
    rintro e w1 ⟨rfl, rfl⟩
    go_wp2_with fail
    refine HF.out.mono ?_
    rintro e w1 ⟨ro, rc, cur1, rfl, hO, hR, hs, ho, hk⟩
    have HO := Lib.hid (hO.mono hBw)
    have HP := Lib.hid (PsAt.reader HI.out hR hs ho)
    have HA1 := Lib.hid (HA0.out.kept hk (fun k hk e => by omega))
    have HK := Lib.hid (Kept.fr (B := B) hk)
    have hsz := hk.size
    clear hO hR hs ho hk
    go_wp2_with fail
    refine (prints_any B V l ro s.wait.length rc _ w1 HA1.out HO.out (by omega) (by omega)).mono ?_
    rintro e w2 ⟨V', rfl, r1, r2⟩
    have hsz2 := r2.size
    rw [List.map_replicate] at r1
    have HA2 := Lib.hid r1
    have HP2 := Lib.hid (HP.out.below r2 hpB)
    have HK2 := Lib.hid (HK.out.fr_trans (Kept.fr_below r2))
    clear r1 r2
    go_wp2_with fail
    refine (command_any p B _ _ V' _ b w2 HP2.out HA2.out (by simp; omega) hpB (by omega)).mono ?_
    rintro e w3 ⟨V3, rfl, r1, r2, r3⟩
    go_wp2_with fail
    go_ret
    exact ⟨_, rfl, by rw [← List.append_assoc]; exact r1, r2, HK2.out.fr_trans r3⟩
end Go.Proofs.YtijfpfkmfibjjaaDoor
