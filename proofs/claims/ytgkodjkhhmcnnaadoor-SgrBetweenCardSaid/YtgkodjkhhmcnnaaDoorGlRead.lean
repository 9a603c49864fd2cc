/- read: the runes that are known of bytes, and what waits. -/
import Derived.Test.YtgkodjkhhmcnnaaDoorGlDec
import Derived.Test.YtgkodjkhhmcnnaaDoorGlOwn
namespace Go.Proofs.YtgkodjkhhmcnnaaDoor
open Go.RowKit
attribute [local go_sem ↓ 10000] run_slo_b


theorem infoB : (Tryd.prog.info? 5).map (fun i => (i.zero, i.size, i.bytes)) = some (some (Value.int .u8 0), 1, 1) := by kernel_rfl
/-- where the reading stands: l waits to be read, xs has been -/
structure Rd (w wr : World) (B : Nat) (L : List UInt8) (o0 o : Option Addr) (n cap : Nat) (l : List UInt8) (ro : Option Addr) (m rc : Nat) (xs : List Int) : Prop where
  bts : Bts wr o n cap l
  off : Off o n B
  offs : ∀ C, Off o0 L.length C → Off o n C
  own : Own wr B 21 .i32 ro m rc xs
  fst : xs ++ (gl.read l).1 = (gl.read L).1
  snd : (gl.read l).2 = (gl.read L).2
  len : m + n ≤ L.length
  bel : Below B w wr
theorem Rd.next {w wr w1 w' : World} {B : Nat} {L l : List UInt8} {o0 o ro : Option Addr} {n cap m rc : Nat} {xs : List Int} {v' : Value} (h : Rd w wr B L o0 o n cap l ro m rc xs) (hf : gl.full l = true) (h1 : Below B wr w1) (hB : B ≤ w1.heap.size)
    (hr : w'.ownsRow B 21 1 v' (m + 1) (cs .i32 (xs ++ [((gl.dec l).1 : Int)]))) (hg : w1.grownBy w' (Value.slice ro m rc).ownBlock) :
    ∃ ro' rc', v' = .slice ro' (m + 1) rc' ∧ Rd w w' B L o0 (slo o cap (gl.dec l).2) (n - (gl.dec l).2) (cap - (gl.dec l).2) (l.drop (gl.dec l).2) ro' (m + 1) rc' (xs ++ [((gl.dec l).1 : Int)]) := by
  obtain ⟨ro', rc', rfl, hown⟩ := Own.of hr
  have hb' : Below B w1 w' := ⟨hg.os, hg.tape, hg.output, hg.size, fun k hk => hg.block k (Nat.lt_of_lt_of_le hk hB) (fun e' => by
    cases ro with
    | none => cases e'
    | some a => have := (h.own.lt a rfl).1; cases e'; omega)⟩
  have hd := gl.dec_size l (gl.full_ne hf)
  rw [h.bts.size] at hd
  have hgo := gl.read_go hf
  have h2 : Below B wr w' := h1.trans hb'
  have hbt := h.bts.off h.off h2.size (fun k hk => h2.block k hk)
  have hbt2 := slice_lo hbt (gl.dec l).2 hd.2
  rw [u8s_drop] at hbt2
  refine ⟨ro', rc', rfl, hbt2, h.off.slo, fun C hC => (h.offs C hC).slo, hown, ?_, ?_, ?_, h.bel.trans h2⟩
  · rw [← h.fst, hgo, List.append_assoc]; rfl
  · rw [← h.snd, hgo]
  · have := h.len; omega
/-- what read gives -/
structure ReadTo (w w' : World) (L : List UInt8) (o : Option Addr) (ro : Option Addr) (m rc : Nat) (o2 : Option Addr) (n2 c2 : Nat) : Prop where
  own : Own w' w.heap.size 21 .i32 ro m rc (gl.read L).1
  bts : Bts w' o2 n2 c2 (gl.read L).2
  off : ∀ B, Off o L.length B → Off o2 n2 B
  bel : Below w.heap.size w w'

set_option maxRecDepth 100000 in
set_option maxHeartbeats 1600000 in
theorem read_any (o : Option Addr) (n cap : Nat) (L : List UInt8) (w : World) (hx : Bts w o n cap L) (ht : UTabs w) (hl : L.length ≤ 4398046511104) :
    Calls Tryd.prog 76 #[.slice o n cap] w fun e w' => ∃ ro m rc o2 n2 c2, e = .returned (.tuple #[.slice ro m rc, .slice o2 n2 c2]) ∧ ReadTo w w' L o ro m rc o2 n2 c2 := by
  obtain ⟨i0, hi, hz0, hz1, hz2⟩ := info_parts infoR
  have H0 : Hid (Rd w w w.heap.size L o o n cap L none 0 0 []) := Lib.hid ⟨hx, Off.of hx (Nat.le_refl _), fun C hC => by rw [← hx.size]; exact hC, Own.nil _ _ _ _, by simp, rfl, by have := hx.size; omega, Below.refl _ _⟩
  have HT := Lib.hid ht
  clear hx ht
  go_enter Tryd.func76, Tryd.ntmps76
  go_wp2_with fail
  go_loopg [0, 2] n (fun gg s0 s2 wr => ∃ (o' : Option Addr) (n' cap' : Nat) (l : List UInt8) (ro : Option Addr) (m rc : Nat) (xs : List Int), s0 = .slice o' n' cap' ∧ s2 = .slice ro m rc ∧ n' ≤ gg ∧ Hid (Rd w wr w.heap.size L o o' n' cap' l ro m rc xs))
  case atStart => exact ⟨_, _, _, _, _, _, _, _, rfl, rfl, Nat.le_refl _, H0⟩
  case round =>
    obtain ⟨o', n', cap', l, ro, m, rc, xs, rfl, rfl, hgg, HR⟩ := hrel
    clear H0
    by_cases hf : gl.full l = true
    · have hsz := HR.out.bts.size
      have hd := gl.dec_size l (gl.full_ne hf)
      rw [hsz] at hd
      have hnl := HR.out.len
      have hn0 : 0 < n' := by omega
      have hz0' : (0 : Int) < (n' : Int) := by omega
      have hdl : ((gl.dec l).2 : Int) ≤ (n' : Int) := by omega
      have HF := Lib.hid (fun X (hb : Below wr.heap.size wr X) => fullRune_any o' n' cap' l X (HR.out.bts.below hb) ((HT.out.step HR.out.bel).step hb))
      have HD := Lib.hid (fun X (hb : Below wr.heap.size wr X) => decode_any o' n' cap' l X (HR.out.bts.below hb) hn0 ((HT.out.step HR.out.bel).step hb))
      have HN := Lib.hid (fun w1 w' v' h1 hB hr hg => Rd.next (w1 := w1) (w' := w') (v' := v') HR.out hf h1 hB hr hg)
      rw [hf] at HF
      generalize (gl.dec l).1 = R at *
      generalize (gl.dec l).2 = N at *
      clear hf hsz
      go_wp2_with fail
      refine (HF.out _ (Below.refl _ _)).mono ?_
      rintro e w1 ⟨rfl, hb1⟩
      have HB1 := Lib.hid hb1; clear hb1
      go_wp2_with fail
      refine (HD.out _ HB1.out).mono ?_
      rintro e w2 ⟨rfl, hb2⟩
      have HB2 := Lib.hid (HB1.out.trans (hb2.mono HB1.out.size)); clear hb2
      go_wp2_with (at_builtin; refine wpList_append_nums (K := .i32) rfl _ _ 69 rfl w.heap.size 21 i0 (Value.int .i32 0) 4 Tryd.underlying69 hi hz0 hz1 hz2 (by decide) rfl (.slice ro m rc) m xs rfl ?c1 (some ⟨w2.heap.size, 0, none⟩) 1 1 [(R : Int)] rfl (nums_one w2 R _) ?c2 ?c3 ?_)
      case c1 => exact (HR.out.own.below (HB2.out.alloc HB2.out.size _)).row
      case c2 => omega
      case c3 => simp; have := HR.out.bel.size; have := HB2.out.size; omega
      intro v' w3 hr3 hg3 hv3
      obtain ⟨ro', rc', rfl, hR3⟩ := HN.out _ w3 v' ((HB2.out.mono HR.out.bel.size).alloc (Nat.le_trans HR.out.bel.size HB2.out.size) _) (by simp; have := HR.out.bel.size; have := HB2.out.size; omega) (by simpa using hr3) hg3
      have HR3 := Lib.hid hR3
      clear hr3 hg3 hv3 hR3
      go_wp2_with fail
      go_roundg (n' - N)
      case measure => omega
      case rel => exact ⟨_, _, _, _, _, _, _, _, rfl, rfl, Nat.le_refl _, HR3⟩
    · have hf' : gl.full l = false := by simpa using hf
      have hst := gl.read_stop hf'
      have hF : ReadTo w wr L o ro m rc o' n' cap' := by
        have h := HR.out
        have e1 := h.fst; have e2 := h.snd
        rw [hst] at e1 e2
        simp only [List.append_nil] at e1
        exact ⟨e1 ▸ h.own, e2 ▸ h.bts, h.offs, h.bel⟩
      have HG := Lib.hid hF
      clear hF hst hf
      by_cases h0 : n' = 0
      · subst h0
        go_wp2_with fail
        go_ret2
        exact ⟨ro, m, rc, o', 0, cap', rfl, HG.out⟩
      · have hz0' : (0 : Int) < (n' : Int) := by omega
        have HF := Lib.hid (fullRune_any o' n' cap' l wr HR.out.bts (HT.out.step HR.out.bel))
        rw [hf'] at HF
        go_wp2_with fail
        refine HF.out.mono ?_
        rintro e w1 ⟨rfl, hb1⟩
        have hG1 : ReadTo w w1 L o ro m rc o' n' cap' := ⟨HG.out.own.below hb1, HG.out.bts.below hb1, HG.out.off, HG.out.bel.trans (hb1.mono HG.out.bel.size)⟩
        have HG1 := Lib.hid hG1
        clear hG1 hb1
        go_wp2_with fail
        go_ret2
        exact ⟨ro, m, rc, o', n', cap', rfl, HG1.out⟩
end Go.Proofs.YtgkodjkhhmcnnaaDoor
