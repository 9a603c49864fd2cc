/- The walk of EscNumbers. -/
import Derived.Test.YtijfpfkmfibjjaaDoorEscRefCsi
import Derived.Test.YtijfpfkmfibjjaaDoorEscRow
import Derived.Deep.DeepCutAuto
namespace Go.Proofs.YtijfpfkmfibjjaaDoor
open Go.RowKit

namespace es
def signB (p : Nat) : Bool := decide (p = 0 ∨ 60 ≤ p ∧ p ≤ 63)
theorem clamp_mx (z : Int) : clampN z = mx (-1) (mn z 9999) := by unfold clampN mx mn; omega
def wantN (ps : List Int) (k : Nat) : List Int := (ps.take (min k 16)).map clampN
theorem wantN_succ (ps : List Int) (k : Nat) (hk : k < ps.length) : wantN ps (k + 1) = if k < 16 then wantN ps k ++ [clampN (ps.getD k 0)] else wantN ps k := by
  unfold wantN
  split
  · have e : ps.getD k 0 = ps[k] := by simp [List.getD, hk]
    rw [show min (k + 1) 16 = k + 1 by omega, show min k 16 = k by omega, List.take_add_one, List.getElem?_eq_getElem hk, List.map_append, e]
    rfl
  · rw [show min (k + 1) 16 = min k 16 by omega]
end es
/-- numbers in a row of the law's own -/
structure WI (w wr : World) (V : Value) (l : List Int) : Prop where
  row : wr.ownsRow w.heap.size 3 1 V l.length (cs .i64 l)
  bel : Below w.heap.size w wr
set_option maxRecDepth 100000 in
set_option maxHeartbeats 6400000 in
theorem numbers_any (priv : UInt8) (o : Option Addr) (n cap : Nat) (ps : List Int) (final : UInt8) (o' : Option Addr) (n' cap' : Nat) (tx : List UInt8) (w : World) (ht : UTabs w ∧ PTab w) (hx : Nums .i64 w o n cap ps ∧ ∀ z ∈ ps, I64 z) (hy : Bts w o' n' cap' tx) (_hn : n ≤ 1048576) (hn' : n' ≤ 1048576) :
    Calls Tryd.prog 6 #[.int .u8 priv.toNat, .slice o n cap, .int .u8 final.toNat, .slice o' n' cap'] w fun e w' => e = .returned (.bool true) ∧ Below w.heap.size w w' := by
  obtain ⟨i0, hi, hz0, hz1, hz2⟩ := info_parts infoI
  have HA := Lib.hid (alive_any w ht.1 ht.2)
  have hmx : cap ≤ 9223372036854775807 := hx.1.max
  have hle := hx.1.le
  have hlen := hx.1.len
  have hp256 := priv.toNat_lt
  have hf256 := final.toNat_lt
  have HX := Lib.hid hx.1; have HI := Lib.hid hx.2; have HY := Lib.hid hy; have HT := Lib.hid ht.1; have HP := Lib.hid ht.2
  clear hx hy ht
  go_enter Tryd.func6, Tryd.ntmps6
  go_wp2_with fail
  refine HA.out.mono ?_
  rintro e w1 ⟨rfl, hb1⟩
  have HB1 := Lib.hid hb1
  have HC := Lib.hid (csiB_any priv.toNat final ps o n cap w1 (HX.out.below hb1) (fun z hz => HI.out z hz) (HP.out.step hb1) (by omega))
  clear hb1 HA
  go_wp2_with fail
  refine HC.out.mono ?_
  rintro e w2 ⟨bo, bc, rfl, hO2, hb2⟩
  have HB2 := Lib.hid (HB1.out.trans (hb2.mono HB1.out.size))
  have HBB2 : Hid (Bts w2 bo (es.csiB priv.toNat ps final).length bc (es.csiB priv.toNat ps final)) := Lib.hid hO2.nums
  have HR := Lib.hid (refCsi_any priv.toNat final ps o n cap w2 (HX.out.below HB2.out) (by omega))
  clear hO2 hb2 HC HB1
  go_wp2_with fail
  refine HR.out.mono ?_
  rintro e w3 ⟨qo, qc, rfl, hq3, hb3⟩
  have HB3 := Lib.hid (HB2.out.trans (hb3.mono HB2.out.size))
  have HBB3 := Lib.hid (HBB2.out.below hb3)
  have HS := Lib.hid (same_bytes bo _ bc _ qo _ qc _ w3 HBB3.out hq3)
  rw [show decide (u8s (es.csiB priv.toNat ps final) = u8s (es.csiB priv.toNat ps final)) = true by simp] at HS
  clear hq3 hb3 HR HB2 HBB2
  go_wp2_with fail
  refine HS.out.mono ?_
  rintro e w4 ⟨rfl, nq, hw4⟩
  have hb4 : Below w3.heap.size w3 w4 := hw4 ▸ below_drewN (Below.refl _ _) nq
  have HB4 := Lib.hid (HB3.out.trans (hb4.mono HB3.out.size))
  have HBB4 := Lib.hid (HBB3.out.below hb4)
  clear hw4 hb4 HS HB3 HBB3
  go_upto_region 6 with fail
  go_cut [10] (fun s10 wx => s10 = .bool (es.signB priv.toNat) ∧ wx = w4)
  case first =>
    by_cases h0 : priv.toNat = 0
    · have e1 : (((priv.toNat : Nat) : Int) == 0) = true := by simp [h0]
      have HC : Hid (es.signB priv.toNat = true) := Lib.hid (by simp [es.signB, h0])
      clear h0
      go_wp2_with fail
      go_meet
      exact ⟨by rw [HC.out], rfl⟩
    · have e1 : (((priv.toNat : Nat) : Int) == 0) = false := by simp; omega
      by_cases h60 : 60 ≤ priv.toNat
      · have h60i : (60 : Int) ≤ ((priv.toNat : Nat) : Int) := by omega
        by_cases h63 : priv.toNat ≤ 63
        · have h63i : ((priv.toNat : Nat) : Int) ≤ 63 := by omega
          have HC : Hid (es.signB priv.toNat = true) := Lib.hid (by simp [es.signB, h60, h63])
          clear h0 h60 h63
          go_wp2_with fail
          go_meet
          exact ⟨by rw [HC.out], rfl⟩
        · have h63i : ¬ ((priv.toNat : Nat) : Int) ≤ 63 := by omega
          have HC : Hid (es.signB priv.toNat = false) := Lib.hid (by simp [es.signB, h0, h63])
          clear h0 h60 h63
          go_wp2_with fail
          go_meet
          exact ⟨by rw [HC.out], rfl⟩
      · have h60i : ¬ (60 : Int) ≤ ((priv.toNat : Nat) : Int) := by omega
        have HC : Hid (es.signB priv.toNat = false) := Lib.hid (by simp [es.signB, h0, h60])
        clear h0 h60
        go_wp2_with fail
        go_meet
        exact ⟨by rw [HC.out], rfl⟩
  case rest =>
  obtain ⟨rfl, rfl⟩ := hcut
  obtain ⟨sg, hsg⟩ : ∃ sg, sg = es.signB priv.toNat := ⟨_, rfl⟩
  rw [← hsg]
  go_upto_region 7 with fail
  go_cut [59] (fun s59 wx => ∃ skip : Bool, s59 = .bool skip ∧ (skip = false → sg = true ∧ 64 ≤ final.toNat ∧ final.toNat ≤ 126 ∧ ¬ (n = 1 ∧ ps.getD 0 0 < 0)) ∧ wx = wc)
  case first =>
    clear hsg
    cases sg
    · go_wp2_with fail
      go_meet
      exact ⟨true, rfl, (fun h => by cases h), rfl⟩
    · by_cases h64 : final.toNat < 64
      · have h64i : ((final.toNat : Nat) : Int) < 64 := by omega
        go_wp2_with fail
        go_meet
        exact ⟨true, rfl, (fun h => by cases h), rfl⟩
      · have h64i : ¬ ((final.toNat : Nat) : Int) < 64 := by omega
        by_cases h126 : 126 < final.toNat
        · have h126i : (126 : Int) < ((final.toNat : Nat) : Int) := by omega
          go_wp2_with fail
          go_meet
          exact ⟨true, rfl, (fun h => by cases h), rfl⟩
        · have h126i : ¬ (126 : Int) < ((final.toNat : Nat) : Int) := by omega
          by_cases hn1 : n = 1
          · obtain ⟨b, off, rfl, hb, hc⟩ := (HX.out.below HB4.out).cell (k := 0) (by omega)
            rw [Nat.add_zero] at hc
            by_cases hz : ps.getD 0 0 < 0
            · generalize ps.getD 0 0 = z at *
              subst hn1
              go_wp2_with fail
              go_meet
              exact ⟨true, rfl, (fun h => by cases h), rfl⟩
            · have hz' := hz
              generalize ps.getD 0 0 = z at *
              subst hn1
              go_wp2_with fail
              go_meet
              exact ⟨false, rfl, (fun _ => ⟨by trivial, by omega, by omega, fun h => by have := h.2; omega⟩), rfl⟩
          · have e1 : ((n : Int) == 1) = false := by simp; omega
            go_wp2_with fail
            go_meet
            exact ⟨false, rfl, (fun _ => ⟨by trivial, by omega, by omega, fun h => hn1 h.1⟩), rfl⟩
  case rest =>
  obtain ⟨skip, rfl, hskip, rfl⟩ := hcut
  cases hsk : skip with
  | true =>
    go_wp2_with fail
    go_ret
    exact ⟨rfl, HB4.out⟩
  | false =>
    obtain ⟨g1, g2, g3, g4⟩ := hskip hsk
    have hsig : priv.toNat = 0 ∨ 60 ≤ priv.toNat ∧ priv.toNat ≤ 63 := by
      rw [hsg] at g1
      simpa [es.signB] using g1
    have HFD := Lib.hid (es.feed_csiB priv.toNat ps final hsig g2 g3 (fun h => g4 ⟨by rw [← hlen]; exact h.1, h.2⟩))
    clear hskip hsk g1 g2 g3 g4 hsig hsg
    have H0 : Hid (WI wc (wc.alloc (.cells #[] 3)) (.slice (some ⟨wc.heap.size, 0, none⟩) 0 0) []) := Lib.hid
      ⟨⟨rfl, .inr ⟨wc.heap.size, 0, #[], rfl, Nat.le_refl _, heap_alloc_new _ _, Nat.le_refl _, by unfold maxLen; omega, rfl, rfl⟩⟩, below_one _ _⟩
    go_wp2_with fail
    go_loopg [11, 63] n (fun gg s11 s63 wr => ∃ (k : Nat) (V : Value), V = s11 ∧ s63 = .int .i64 k ∧ k ≤ n ∧ n - k ≤ gg ∧ Hid (WI wc wr V (es.wantN ps k)))
    case atStart => exact ⟨0, _, rfl, rfl, Nat.zero_le _, by omega, H0⟩
    case round =>
      clear H0
      obtain ⟨k, V, rfl, rfl, hk, hgg, HS⟩ := hrel
      have hs1 : wc.heap.size ≤ wr.heap.size := HS.out.bel.size
      have hwl : (es.wantN ps k).length ≤ 16 := by unfold es.wantN; simp; omega
      have HBW := Lib.hid (HB4.out.trans (HS.out.bel.mono HB4.out.size))
      by_cases hlt : k < n
      · obtain ⟨b, off, rfl, hb, hc⟩ := (HX.out.below HBW.out).cell hlt
        have HSU := Lib.hid (es.wantN_succ ps k (by omega))
        generalize ps.getD k 0 = z at *
        by_cases h16 : k < 16
        · have h16i : (k : Int) < 16 := by omega
          have HN : Hid (es.wantN ps (k + 1) = es.wantN ps k ++ [mx (-1) (mn z 9999)]) := Lib.hid (by rw [HSU.out, if_pos h16, es.clamp_mx])
          have rm := fun W ts t k k' x y => run_mn (P := Tryd.prog) (w := W) ts t k k' x y
          have rx := fun W ts t k k' x y => run_mx (P := Tryd.prog) (w := W) ts t k k' x y
          clear HSU HBW
          generalize es.wantN ps k = P at *
          have HRA : Hid ((wr.alloc (.cells #[.int .i64 (mx (-1) (mn z 9999))] 3)).ownsRow wc.heap.size 3 1 V P.length (cs .i64 P)) := Lib.hid (HS.out.row.alloc _)
          go_wp2_with (at_builtin; refine wpList_append_nums (K := .i64) rfl _ _ 43 rfl wc.heap.size 3 i0 (Value.int .i64 0) 8 Tryd.underlying43 hi hz0 hz1 hz2 (by decide) rfl V P.length P rfl HRA.out (some ⟨wr.heap.size, 0, none⟩) 1 1 [mx (-1) (mn z 9999)] rfl (nums_one _ _ _) (by omega) (by simp; omega) (fun v' w' r1 r2 r3 => ?_); have HR1 : Hid (WI wc w' v' (P ++ [mx (-1) (mn z 9999)])) := Lib.hid ⟨by rw [List.length_append]; exact r1, HS.out.bel.trans (((Below.refl wc.heap.size wr).alloc hs1 (.cells #[.int .i64 (mx (-1) (mn z 9999))] 3)).trans ((Below.refl wc.heap.size _).grown r2 (by simp; omega) (fun g hg => (HRA.out.lt g hg).1)))⟩; clear r1 r2 r3; clear HRA)
          go_roundg (n - (k + 1))
          case measure => omega
          case rel => exact ⟨k + 1, _, rfl, by go_num, by omega, Nat.le_refl _, by rw [HN.out]; exact HR1⟩
        · have h16i : ¬ (k : Int) < 16 := by omega
          have HN : Hid (es.wantN ps (k + 1) = es.wantN ps k) := Lib.hid (by rw [HSU.out, if_neg h16])
          clear HSU
          go_wp2_with fail
          go_roundg (n - (k + 1))
          case measure => omega
          case rel => exact ⟨k + 1, _, rfl, by go_num, by omega, Nat.le_refl _, by rw [HN.out]; exact HS⟩
      · obtain rfl : k = n := by omega
        have hwant : es.wantN ps k = (ps.take 16).map es.clampN := by
          unfold es.wantN
          rw [show ps.take (min k 16) = ps.take 16 by rw [List.take_eq_take_iff]; omega]
        rw [hwant] at HS hwl
        obtain ⟨wo, wk, rfl, hWO⟩ := Own.of (K := .i64) HS.out.row
        have HWN := Lib.hid hWO.nums
        have HBB6 := Lib.hid (HBB4.out.below HS.out.bel)
        have HOP := Lib.hid (OP.start (Below.refl wr.heap.size wr) (HT.out.step HBW.out))
        have hcl : (es.csiB priv.toNat ps final).length ≤ 1000 := by
          have h1 := es.upto_len priv.toNat ps (min ps.length 16)
          have h2 : es.csiB priv.toNat ps final = es.upto priv.toNat ps (min ps.length 16) ++ [final] := by unfold es.csiB es.upto; rfl
          rw [h2, List.length_append]
          simp only [List.length_cons, List.length_nil]
          omega
        clear HS hwant hWO HBB4 HB4
        generalize (ps.take 16).map es.clampN = WL at *
        generalize es.csiB priv.toNat ps final = CB at *
        generalize CB.length = cn at *
        obtain ⟨wn, hwn⟩ : ∃ wn, WL.length = wn := ⟨_, rfl⟩
        rw [hwn] at HWN hwl ⊢
        have HWL := Lib.hid hwn
        clear hwn
        go_upto_region 17 with fail
        generalize hwb : wr.alloc (.cells Tryd.zeroCells33 33) = wa at *
        clear hwb
        have HF := Lib.hid (feed_pg wr.heap.size {} o' n' cap' tx wa HOP.out.ps (HY.out.below (HBW.out.trans (HOP.out.bel.mono HBW.out.size))) (fun h0 d hd e => by have := Off.of HY.out (Nat.le_refl _) h0 d hd; have := HBW.out.size; omega) (by omega))
        go_wp2_with fail
        refine HF.out.mono ?_
        rintro e w5 ⟨ro5, rc5, rfl, _, h2, h3⟩
        have HOP5 := Lib.hid (HOP.out.fed h2 h3)
        clear h2 h3 HF HOP
        generalize (es.feed {} tx).1 = st at *
        generalize (es.feed {} tx).2.length = m5 at *
        have hp5 := HOP5.out.ps.lt
        have HOP6 := Lib.hid (HOP5.out.step (below_one w5 (.cells #[.int .u8 24] 5)))
        have HF := Lib.hid (feed_pg wr.heap.size st (some ⟨w5.heap.size, 0, none⟩) 1 1 [24] _ HOP6.out.ps (nums_one w5 24 5) (fun _ d hd e => by cases hd; simp at e; omega) (by omega))
        clear HOP5
        go_wp2_with fail
        refine HF.out.mono ?_
        rintro e w6 ⟨ro6, rc6, rfl, _, h2, h3⟩
        rw [es.feed_24] at h2
        have HOP7 := Lib.hid (HOP6.out.fed h2 h3)
        clear h2 h3 HF HOP6
        generalize (es.feed st [24]).2.length = m6 at *
        have HF := Lib.hid (feed_pg wr.heap.size {} bo cn bc CB w6 HOP7.out.ps (HBB6.out.below HOP7.out.bel) (fun h0 d hd e => by have := Off.of HBB6.out (Nat.le_refl _) h0 d hd; omega) (by omega))
        rw [HFD.out] at HF
        go_wp2_with fail
        refine HF.out.mono ?_
        rintro e w7 ⟨ro7, rc7, rfl, h1, h2, h3⟩
        have HOP8 := Lib.hid (HOP7.out.fed h2 h3)
        have hI7 := h1.inS.1
        obtain ⟨b7, rfl⟩ := hI7.some (by simp)
        obtain ⟨p7, q7, l7, f7, n7⟩ := hI7.ask b7 rfl 0 (by simp)
        have a0 : w7.cell? ⟨b7, 0, none⟩ = some (.int .i64 4) := f7 0 (by omega)
        have a1 : w7.cell? ⟨b7, 2, none⟩ = some (.int .u8 final.toNat) := f7 2 (by omega)
        have a2 : w7.cell? ⟨b7, 3, none⟩ = some (.int .u8 priv.toNat) := f7 3 (by omega)
        have a3 : w7.cell? ⟨b7, 4, none⟩ = some (.string ⟨#[]⟩) := f7 4 (by omega)
        have a4 : w7.cell? ⟨b7, 5, none⟩ = some (.slice p7 wn q7) := (f7 5 (by omega)).trans (by show some (Value.slice p7 WL.length q7) = _; rw [HWL.out])
        have n7' : Nums .i64 w7 p7 wn q7 WL := by rw [← HWL.out]; exact n7
        have HSI := Lib.hid (same_ints p7 wn q7 WL wo wn wk WL w7 n7' (HWN.out.below HOP8.out.bel))
        rw [show decide (WL = WL) = true by simp] at HSI
        have HIDL := Lib.hid (fun X (hb : Below w7.heap.size w7 X) => (HOP8.out.step hb).ps.idle)
        have hid0 : es.idle {} = true := rfl
        rw [hid0] at HIDL
        have HBF := Lib.hid (HBW.out.trans (HOP8.out.bel.mono HBW.out.size))
        clear h1 h2 h3 HF HOP7 hI7 f7 n7 n7' HOP8
        go_wp2_with fail
        refine HSI.out.mono ?_
        rintro e w8 ⟨rfl, nq8, hw8⟩
        have hb8 : Below w7.heap.size w7 w8 := hw8 ▸ below_drewN (Below.refl _ _) nq8
        have HI8 := Lib.hid (HIDL.out w8 hb8)
        have HB8 := Lib.hid (HBF.out.trans (hb8.mono HBF.out.size))
        clear hw8 hb8 HSI HIDL HBF
        go_wp2_with fail
        refine HI8.out.mono ?_
        rintro e w9 ⟨rfl, rfl⟩
        go_wp2_with fail
        go_ret
        exact ⟨rfl, HB8.out⟩
end Go.Proofs.YtijfpfkmfibjjaaDoor
