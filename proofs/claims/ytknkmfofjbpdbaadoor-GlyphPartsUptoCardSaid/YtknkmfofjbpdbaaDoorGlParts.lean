/- The walk of GlyphParts. -/
import Derived.Test.YtknkmfofjbpdbaaDoorGlReadM
import Derived.Test.YtknkmfofjbpdbaaDoorGlAlive
import Derived.Test.YtknkmfofjbpdbaaDoorGlRefCut
import Derived.Laws.BitsLemmas
namespace Go.Proofs.YtknkmfofjbpdbaaDoor
open Go.RowKit

theorem i64_and7 (n : Int) : bits .and .i64 n 7 = n % 8 := by
  have h7 : (BitVec.ofInt 64 7).toNat = 2 ^ 3 - 1 := by decide
  have key : (BitVec.ofInt 64 n &&& BitVec.ofInt 64 7).toNat = (n % ((2 ^ 64 : Nat) : Int)).toNat % 2 ^ 3 := by
    rw [BitVec.toNat_and, BitVec.toNat_ofInt, h7, Nat.and_two_pow_sub_one_eq_mod]
  show IntKind.i64.wrap ((BitVec.ofInt 64 n &&& BitVec.ofInt 64 7).toNat : Nat) = n % 8
  rw [key, IntKind.wrap_i64]
  omega
set_option maxRecDepth 100000 in
theorem run_slh_b (o : Option Addr) (n cap : Nat) (k k' : IntKind) (l : Nat) (x : Int) (hl : (l : Int) ≤ x) (hh : x ≤ (cap : Int)) (wx : World) : (Instr.slice 22 (.slice o n cap) (some (.int k (l : Int))) (some (.int k' x)) none).run Tryd.prog wx = .ok (.slice (slo o cap l) (x.toNat - l) (cap - l)) wx := by
  rw [run_slice_lh wx 22 o n cap Tryd.underlying22 k k' l x (by omega) (by omega) (by omega)]
  have hz : (sizeOf (Tryd.prog.elem 22)).run Tryd.prog wx = .ok 1 wx := by kernel_rfl
  rw [hz]
  simp [Result.andThen, sliced, slo]
attribute [local go_sem ↓ 10000] run_slh_b run_slo_b
/-- a part of a slice -/
theorem slice_lh {K : IntKind} {w : World} {o : Option Addr} {n cap : Nat} {zs : List Int} (H : Nums K w o n cap zs) (l N : Nat) (hh : l + N ≤ n) : Nums K w (slo o cap l) N (cap - l) ((zs.drop l).take N) := by
  have hle := H.le
  have h1 := slice_lo H l (by omega)
  refine ⟨by rw [List.length_take, h1.len]; omega, by omega, h1.max, ?_⟩
  rcases h1.at_ with h0 | ⟨b, off, he, hb, hc⟩
  · exact .inl (by omega)
  · exact .inr ⟨b, off, he, hb, fun k hk => by rw [hc k (by omega)]; simp [List.getD, hk]⟩
theorem u8s_lh (l : List UInt8) (a b : Nat) : ((u8s l).drop a).take b = u8s ((l.drop a).take b) := by simp [u8s]

/-- where the reading in pieces stands: A bytes have been fed -/
structure PT (w wr : World) (p : Nat) (L : List UInt8) (A : Nat) (ro : Option Addr) (m rc : Nat) (q : List UInt8) (cur : Array Value) : Prop where
  own : Own wr (p + 1) 21 .i32 ro m rc (gl.read (L.take A)).1
  rd : RdAt wr p 0 q cur 31
  q : (gl.read (L.take A)).2 = q
  bel : Below w.heap.size w wr
  pl : w.heap.size ≤ p
theorem PT.size {w wr : World} {p : Nat} {L : List UInt8} {A : Nat} {ro : Option Addr} {m rc : Nat} {q : List UInt8} {cur : Array Value} (h : PT w wr p L A ro m rc q cur) : p < wr.heap.size := h.rd.lt
theorem PT.few {w wr : World} {p : Nat} {L : List UInt8} {A : Nat} {ro : Option Addr} {m rc : Nat} {q : List UInt8} {cur : Array Value} (h : PT w wr p L A ro m rc q cur) (hA : A ≤ L.length) : m ≤ A := by
  have h1 := h.own.len
  have h2 := gl.read_len (L.take A).length (L.take A) (Nat.le_refl _)
  rw [List.length_take] at h2
  unfold gl.read at h1
  rw [List.length_take] at h1
  omega
/-- one piece more -/
theorem PT.fed {w wr w2 w3 : World} {p : Nat} {L : List UInt8} {A N : Nat} {ro : Option Addr} {m rc m2 : Nat} {q : List UInt8} {cur cur2 : Array Value} {v' : Value} (h : PT w wr p L A ro m rc q cur)
    (h2 : RdAt w2 p 0 (gl.read (q ++ (L.drop A).take N)).2 cur2 31) (hk : Kept wr w2 (· = p))
    (hr : w3.ownsRow (p + 1) 21 1 v' (m + m2) (cs .i32 ((gl.read (L.take A)).1 ++ (gl.read (q ++ (L.drop A).take N)).1))) (hg : w2.grownBy w3 (Value.slice ro m rc).ownBlock) :
    ∃ ro' rc', v' = .slice ro' (m + m2) rc' ∧ PT w w3 p L (A + N) ro' (m + m2) rc' (gl.read (q ++ (L.drop A).take N)).2 cur2 := by
  obtain ⟨ro', rc', rfl, hO⟩ := Own.of hr
  have hO2 : Own w2 (p + 1) 21 .i32 ro m rc (gl.read (L.take A)).1 := h.own.kept hk (fun a ha e => by have := (h.own.lt a ha).1; omega)
  have hb3 : Below (p + 1) w2 w3 := grown_below hg hO2.row (Nat.le_trans h.size hk.size)
  have ht : L.take (A + N) = L.take A ++ (L.drop A).take N := List.take_add
  have hra := gl.read_append _ (L.take A) ((L.drop A).take N) (Nat.le_refl _)
  rw [h.q] at hra
  refine ⟨ro', rc', rfl, ?_, h2.below hb3 (by omega), ?_, ?_, h.pl⟩
  · rw [ht, hra]; exact hO
  · rw [ht, hra]
  · have hb := h.bel
    exact (hb.trans (hk.below hb.size (fun k hk' => by have := h.pl; omega))).trans (hb3.mono (by have := h.pl; omega))
theorem PT.own2 {w wr w2 : World} {p : Nat} {L : List UInt8} {A : Nat} {ro : Option Addr} {m rc : Nat} {q : List UInt8} {cur : Array Value} (h : PT w wr p L A ro m rc q cur) (hk : Kept wr w2 (· = p)) : Own w2 (p + 1) 21 .i32 ro m rc (gl.read (L.take A)).1 :=
  h.own.kept hk (fun a ha e => by have := (h.own.lt a ha).1; omega)

set_option maxRecDepth 100000 in
set_option maxHeartbeats 1600000 in
theorem parts_any (o : Option Addr) (n cap : Nat) (l : List UInt8) (o' : Option Addr) (n' cap' : Nat) (zs : List Int) (w : World) (ht : UTabs w) (hx : Bts w o n cap l) (hz : Nums .i64 w o' n' cap' zs ∧ ∀ z ∈ zs, I64 z) (hn : n ≤ 1048576) (_hn' : n' ≤ 1048576) :
    Calls Tryd.prog 5 #[.slice o n cap, .slice o' n' cap'] w fun e w' => e = .returned (.bool true) ∧ Below w.heap.size w w' := by
  obtain ⟨i0, hi, hz0, hz1, hz2⟩ := info_parts infoR
  have HA := Lib.hid (alive_any w ht)
  have CA := Lib.hid (fun X (hb : Below w.heap.size w X) => runes_any o n cap l X (hx.below hb) (ht.step hb) (by omega))
  have hmx : cap ≤ 9223372036854775807 := hx.max
  have hle := hx.le
  have hmx' : cap' ≤ 9223372036854775807 := hz.1.max
  have hle' := hz.1.le
  have hsz := hx.size
  have HX := Lib.hid hx; have HZ := Lib.hid hz.1; have HT := Lib.hid ht; have HL := Lib.hid hsz
  clear hx hz ht hsz
  go_enter Tryd.func5, Tryd.ntmps5
  go_wp2_with fail
  refine HA.out.mono ?_
  rintro e w1 ⟨rfl, hb1⟩
  have hs1 : w.heap.size ≤ w1.heap.size := hb1.size
  have HP0 : Hid (PT w ((w1.alloc (.cells rd0 31)).alloc (.cells #[] 21)) w1.heap.size l 0 (some ⟨w1.heap.size + 1, 0, none⟩) 0 0 [] rd0) := Lib.hid
    ⟨by have := own_made0 (w := w1.alloc (.cells rd0 31)) (B := w1.heap.size + 1) 0 #[] (by simp) (by unfold maxLen; omega) rfl 21 .i32
        have h2 : Own ((w1.alloc (.cells rd0 31)).alloc (.cells #[] 21)) (w1.heap.size + 1) 21 .i32 (some ⟨w1.heap.size + 1, 0, none⟩) 0 0 [] := by simpa using this
        exact h2,
      (rdAt_new w1 31).below (below_one _ _) (by simp), rfl, (hb1.alloc hs1 _).alloc (by simp; omega) _, hs1⟩
  clear hb1 HA
  go_wp2_with fail
  generalize hW : (w1.alloc (.cells rd0 31)).alloc (.cells #[] 21) = wa at *
  clear hW
  generalize w1.heap.size = p at *
  have hsp : w.heap.size ≤ p := hs1
  go_loopg [6, 7, 16] n' (fun gg s6 s7 s16 wr => ∃ (k A m : Nat) (ro : Option Addr) (rc : Nat), s16 = .int .i64 k ∧ s7 = .int .i64 A ∧ s6 = .slice ro m rc ∧ k ≤ n' ∧ n' - k ≤ gg ∧ A ≤ n ∧ m ≤ A ∧ Hid (∃ q cur, PT w wr p l A ro m rc q cur))
  case atStart => exact ⟨0, 0, 0, _, 0, rfl, rfl, rfl, Nat.zero_le _, by omega, Nat.zero_le _, Nat.le_refl _, Lib.hid ⟨_, _, HP0.out⟩⟩
  case round =>
    clear HP0
    obtain ⟨k, A, m, ro, rc, rfl, rfl, rfl, hk, hgg, hAn, hmA, HP⟩ := hrel
    obtain ⟨q, cur, hP⟩ := HP.out
    clear HP
    have hAi : (A : Int) ≤ (n : Int) := by omega
    have hlei : (n : Int) ≤ (cap : Int) := by omega
    have hAc : (A : Int) ≤ (cap : Int) := by omega
    by_cases hlt : k < n'
    · obtain ⟨b, off, rfl, hb, k0⟩ := (HZ.out.below hP.bel).cell hlt
      have h7 := i64_and7 (zs.getD k 0)
      obtain ⟨N0, hN0⟩ : ∃ N0 : Nat, zs.getD k 0 % 8 = (N0 : Int) := ⟨(zs.getD k 0 % 8).toNat, by omega⟩
      have hN7 : N0 ≤ 7 := by omega
      rw [hN0] at h7
      generalize zs.getD k 0 = z at *
      have HP := Lib.hid hP
      clear hN0 hP
      by_cases hgt : n < A + N0
      · have hgi : (n : Int) - (A : Int) < (N0 : Int) := by omega
        have hgA : (A : Int) ≤ (A : Int) + ((n : Int) - (A : Int)) := by omega
        have hgB : (A : Int) + ((n : Int) - (A : Int)) ≤ (cap : Int) := by omega
        have hbt := slice_lh (HX.out.below HP.out.bel) A (n - A) (by omega)
        rw [u8s_lh] at hbt
        have HF := Lib.hid (feed_any p 0 q ((l.drop A).take (n - A)) cur _ _ _ _ wr HP.out.rd hbt (HT.out.step HP.out.bel) (by omega))
        have hfew := HP.out.rd.few
        have hlp : ((l.drop A).take (n - A)).length = n - A := by rw [List.length_take, List.length_drop, HL.out]; omega
        have hrl := gl.read_len (q ++ (l.drop A).take (n - A)).length (q ++ (l.drop A).take (n - A)) (Nat.le_refl _)
        rw [List.length_append, hlp] at hrl
        have HRL : Hid ((gl.read (q ++ (l.drop A).take (n - A))).1.length ≤ 3 + (n - A)) := Lib.hid (by unfold gl.read; rw [List.length_append, hlp]; omega)
        clear hbt hrl hlp
        go_wp2_with fail
        refine HF.out.mono ?_
        rintro e w2 ⟨ro2, m2, rc2, cur2, rfl, hO2, hR2, _, _, hK2⟩
        have hm2 : m2 ≤ 3 + (n - A) := by have := hO2.len; have := HRL.out; omega
        have HO2 := Lib.hid hO2
        have HS := Lib.hid (fun v' w3 hr hg => PT.fed (v' := v') (w3 := w3) (m2 := m2) HP.out hR2 hK2 hr hg)
        have HOW := Lib.hid (HP.out.own2 hK2)
        have hps : p + 1 ≤ w2.heap.size := Nat.le_trans HP.out.size hK2.size
        clear hO2 hR2 hK2 HF HRL k0 hb h7
        go_wp2_with (at_builtin; refine wpList_append_nums (K := .i32) rfl _ _ 24 rfl (p + 1) 21 i0 (Value.int .i32 0) 4 Tryd.underlying24 hi hz0 hz1 hz2 (by decide) rfl (.slice ro m rc) m (gl.read (l.take A)).1 rfl ?a1 ro2 m2 rc2 (gl.read (q ++ (l.drop A).take (n - A))).1 rfl ?a0 ?a2 ?a3 ?_)
        case a1 => exact HOW.out.row
        case a0 => exact HO2.out.nums
        case a2 => omega
        case a3 => exact hps
        intro v' w3 hr3 hg3 _
        obtain ⟨ro', rc', rfl, hP3⟩ := HS.out v' w3 (by simpa [cs] using hr3) hg3
        have hfw := hP3.few (by rw [HL.out]; omega)
        have HP3 := Lib.hid hP3
        clear hr3 hg3 hP3 HS HO2 HOW
        go_wp2_with fail
        go_roundg (n' - (k + 1))
        case measure => omega
        case rel => exact ⟨k + 1, A + (n - A), m + m2, ro', rc', by go_num, by first | rfl | go_num | (congr 1; omega), rfl, by omega, Nat.le_refl _, by omega, hfw, Lib.hid ⟨_, _, HP3.out⟩⟩
      · have hgi : (N0 : Int) ≤ (n : Int) - (A : Int) := by omega
        have hgc : (A : Int) + (N0 : Int) ≤ (cap : Int) := by omega
        have hga : (A : Int) ≤ (A : Int) + (N0 : Int) := by omega
        have hbt := slice_lh (HX.out.below HP.out.bel) A N0 (by omega)
        rw [u8s_lh] at hbt
        have HF := Lib.hid (feed_any p 0 q ((l.drop A).take N0) cur _ _ _ _ wr HP.out.rd hbt (HT.out.step HP.out.bel) (by omega))
        have hfew := HP.out.rd.few
        have hlp : ((l.drop A).take N0).length = N0 := by rw [List.length_take, List.length_drop, HL.out]; omega
        have hrl := gl.read_len (q ++ (l.drop A).take N0).length (q ++ (l.drop A).take N0) (Nat.le_refl _)
        rw [List.length_append, hlp] at hrl
        have HRL : Hid ((gl.read (q ++ (l.drop A).take N0)).1.length ≤ 3 + N0) := Lib.hid (by unfold gl.read; rw [List.length_append, hlp]; omega)
        clear hbt hrl hlp
        go_wp2_with fail
        refine HF.out.mono ?_
        rintro e w2 ⟨ro2, m2, rc2, cur2, rfl, hO2, hR2, _, _, hK2⟩
        have hm2 : m2 ≤ 3 + N0 := by have := hO2.len; have := HRL.out; omega
        have HO2 := Lib.hid hO2
        have HS := Lib.hid (fun v' w3 hr hg => PT.fed (v' := v') (w3 := w3) (m2 := m2) HP.out hR2 hK2 hr hg)
        have HOW := Lib.hid (HP.out.own2 hK2)
        have hps : p + 1 ≤ w2.heap.size := Nat.le_trans HP.out.size hK2.size
        clear hO2 hR2 hK2 HF HRL k0 hb h7
        go_wp2_with (at_builtin; refine wpList_append_nums (K := .i32) rfl _ _ 24 rfl (p + 1) 21 i0 (Value.int .i32 0) 4 Tryd.underlying24 hi hz0 hz1 hz2 (by decide) rfl (.slice ro m rc) m (gl.read (l.take A)).1 rfl ?b1 ro2 m2 rc2 (gl.read (q ++ (l.drop A).take N0)).1 rfl ?b0 ?b2 ?b3 ?_)
        case b1 => exact HOW.out.row
        case b0 => exact HO2.out.nums
        case b2 => omega
        case b3 => exact hps
        intro v' w3 hr3 hg3 _
        obtain ⟨ro', rc', rfl, hP3⟩ := HS.out v' w3 (by simpa [cs] using hr3) hg3
        have hfw := hP3.few (by rw [HL.out]; omega)
        have HP3 := Lib.hid hP3
        clear hr3 hg3 hP3 HS HO2 HOW
        go_wp2_with fail
        go_roundg (n' - (k + 1))
        case measure => omega
        case rel => exact ⟨k + 1, A + N0, m + m2, ro', rc', by go_num, by first | rfl | go_num | (congr 1; omega), rfl, by omega, Nat.le_refl _, by omega, hfw, Lib.hid ⟨_, _, HP3.out⟩⟩
    · obtain rfl : k = n' := by omega
      have hbt := slice_lo (HX.out.below hP.bel) A hAn
      have hpe : (l.drop A).take (n - A) = l.drop A := List.take_of_length_le (by rw [List.length_drop, HL.out]; exact Nat.le_refl _)
      rw [u8s_drop, ← hpe] at hbt
      have HP := Lib.hid hP
      have HF := Lib.hid (feed_any p 0 q ((l.drop A).take (n - A)) cur _ _ _ _ wr HP.out.rd hbt (HT.out.step HP.out.bel) (by omega))
      have hfew := HP.out.rd.few
      have hlp : ((l.drop A).take (n - A)).length = n - A := by rw [List.length_take, List.length_drop, HL.out]; omega
      have hrl := gl.read_len (q ++ (l.drop A).take (n - A)).length (q ++ (l.drop A).take (n - A)) (Nat.le_refl _)
      rw [List.length_append, hlp] at hrl
      have HRL : Hid ((gl.read (q ++ (l.drop A).take (n - A))).1.length ≤ 3 + (n - A)) := Lib.hid (by unfold gl.read; rw [List.length_append, hlp]; omega)
      clear hbt hrl hlp hP hpe
      go_wp2_with fail
      refine HF.out.mono ?_
      rintro e w2 ⟨ro2, m2, rc2, cur2, rfl, hO2, hR2, _, _, hK2⟩
      have hm2 : m2 ≤ 3 + (n - A) := by have := hO2.len; have := HRL.out; omega
      have HO2 := Lib.hid hO2
      have HS := Lib.hid (fun v' w3 hr hg => PT.fed (v' := v') (w3 := w3) (m2 := m2) HP.out hR2 hK2 hr hg)
      have HOW := Lib.hid (HP.out.own2 hK2)
      have hps : p + 1 ≤ w2.heap.size := Nat.le_trans HP.out.size hK2.size
      clear hO2 hR2 hK2 HF HRL
      go_wp2_with (at_builtin; refine wpList_append_nums (K := .i32) rfl _ _ 24 rfl (p + 1) 21 i0 (Value.int .i32 0) 4 Tryd.underlying24 hi hz0 hz1 hz2 (by decide) rfl (.slice ro m rc) m (gl.read (l.take A)).1 rfl ?c1 ro2 m2 rc2 (gl.read (q ++ (l.drop A).take (n - A))).1 rfl ?c0 ?c2 ?c3 ?_)
      case c1 => exact HOW.out.row
      case c0 => exact HO2.out.nums
      case c2 => omega
      case c3 => exact hps
      intro v' w3 hr3 hg3 _
      obtain ⟨ro', rc', rfl, hP3⟩ := HS.out v' w3 (by simpa [cs] using hr3) hg3
      have hfw := hP3.few (by rw [HL.out]; omega)
      generalize gl.read (q ++ (l.drop A).take (n - A)) = Q at *
      generalize hM : m + m2 = M at *
      have hqq := hP3.q
      have hown := hP3.own
      rw [show A + (n - A) = n by omega, List.take_of_length_le (by rw [HL.out]; exact Nat.le_refl _)] at hqq hown
      have HRD := Lib.hid hP3.rd
      have HQQ := Lib.hid hqq
      have HOO := Lib.hid hown
      have HBB := Lib.hid hP3.bel
      have hq3 := hP3.rd.few
      have hpw : p < w3.heap.size := hP3.size
      have hM2 : M ≤ 1048576 := by omega
      clear hr3 hg3 hP3 HS HO2 HOW HP hfew hqq hown hm2 hM
      have HW := Lib.hid (waits_any p 0 Q.2 cur2 _ w3 HRD.out)
      have hq3i : (Q.2.length : Int) ≤ 3 := by omega
      go_wp2_with fail
      refine HW.out.mono ?_
      rintro e w4 ⟨rfl, rfl⟩
      have HE := Lib.hid (rest_any p 0 Q.2 cur2 _ w3 HRD.out)
      clear HW
      go_wp2_with fail
      refine HE.out.mono ?_
      rintro e w5 ⟨ro5, rc5, cur5, rfl, hO5, _, _, _, hK5⟩
      have HO5 := Lib.hid hO5
      have HOW := Lib.hid (HOO.out.kept hK5 (fun a ha e => by have := (HOO.out.lt a ha).1; omega))
      have HB5 := Lib.hid (HBB.out.trans (hK5.below (B := w.heap.size) HBB.out.size (fun k hk' => by omega)))
      have hps5 : p + 1 ≤ w5.heap.size := Nat.le_trans hpw hK5.size
      clear hO5 hK5 HE HOO HBB
      go_wp2_with (at_builtin; refine wpList_append_nums (K := .i32) rfl _ _ 24 rfl (p + 1) 21 i0 (Value.int .i32 0) 4 Tryd.underlying24 hi hz0 hz1 hz2 (by decide) rfl (.slice ro' M rc') M (gl.read l).1 rfl ?d1 ro5 Q.2.length rc5 (List.replicate Q.2.length 65533) rfl ?d0 ?d2 ?d3 ?_)
      case d1 => exact HOW.out.row
      case d0 => exact HO5.out.nums
      case d2 => omega
      case d3 => exact hps5
      intro v' w6 hr6 hg6 _
      obtain ⟨ro6, rc6, rfl, hO6⟩ := Own.of (K := .i32) (xs := (gl.read l).1 ++ List.replicate Q.2.length 65533) (by simpa [cs] using hr6)
      have hru : (gl.read l).1 ++ List.replicate Q.2.length 65533 = gl.runes l := by unfold gl.runes; rw [HQQ.out]
      rw [hru] at hO6
      have HO6 := Lib.hid hO6
      have HB6 := Lib.hid (HB5.out.trans ((grown_below hg6 HOW.out.row hps5).mono (by omega)))
      clear hr6 hg6 hO6 hru HOW HO5 HB5
      generalize gl.runes l = E at *
      go_wp2_with fail
      refine (CA.out _ HB6.out).mono ?_
      rintro e w7 ⟨ro7, k7, rc7, rfl, hO7, hb7⟩
      have HB7 := Lib.hid (HB6.out.trans (hb7.mono HB6.out.size))
      have SA := Lib.hid (same_runes ro6 (M + Q.2.length) rc6 E ro7 k7 rc7 E w7 (HO6.out.below hb7).nums hO7.nums)
      rw [show decide (E = E) = true by simp] at SA
      clear hO7 hb7 HO6
      go_wp2_with fail
      refine SA.out.mono ?_
      rintro e w8 ⟨rfl, nq8, hw8⟩
      have HB8 := Lib.hid (show Below w.heap.size w w8 from hw8 ▸ below_drewN HB7.out nq8)
      clear hw8
      go_wp2_with fail
      go_ret
      exact ⟨rfl, HB8.out⟩
end Go.Proofs.YtknkmfofjbpdbaaDoor
