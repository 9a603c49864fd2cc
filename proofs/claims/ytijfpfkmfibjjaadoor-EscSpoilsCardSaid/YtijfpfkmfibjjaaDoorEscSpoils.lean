/- The walk of EscSpoils. -/
import Derived.Test.YtijfpfkmfibjjaaDoorEscRow
import Derived.Test.YtijfpfkmfibjjaaDoorGlSlh
import Derived.KernelRfl
import Derived.Deep.DeepCutAuto
namespace Go.Proofs.YtijfpfkmfibjjaaDoor
open Go.RowKit

namespace es
/-- the ways in which a sequence is spoiled -/
def ways : List (List UInt8) := [[49, 58, 50], [49, 60], [63, 49, 63], [32, 49], [33, 33, 33], [49, 32, 59]]
def WayOk (l : List UInt8) : Prop := ∃ st, feed {} ([27, 91] ++ l) = (st, []) ∧ st.state = 2 ∧ st.spoiled = true
theorem way_ok (m : Nat) (h : m < 6) : WayOk (ways.getD m []) := by
  obtain rfl | rfl | rfl | rfl | rfl | rfl : m = 0 ∨ m = 1 ∨ m = 2 ∨ m = 3 ∨ m = 4 ∨ m = 5 := by omega
  all_goals exact ⟨_, Prod.ext rfl (by kernel_rfl), by kernel_rfl, by kernel_rfl⟩
theorem way_len (m : Nat) (h : m < 6) : (ways.getD m []).length ≤ 3 := by
  obtain rfl | rfl | rfl | rfl | rfl | rfl : m = 0 ∨ m = 1 ∨ m = 2 ∨ m = 3 ∨ m = 4 ∨ m = 5 := by omega
  all_goals decide
/-- is this a control byte that is said? -/
def ctl (c : Nat) : Bool := decide (c < 32 ∧ c ≠ 24 ∧ c ≠ 26 ∧ c ≠ 27)
theorem feed_spoiled (way : List UInt8) (c f : UInt8) (hw : WayOk way) (h1 : 64 ≤ f.toNat) (h2 : f.toNat ≤ 126) :
    feed {} ([27, 91] ++ way ++ (if ctl c.toNat then [c] else []) ++ [f] ++ [120]) = ({}, (if ctl c.toNat then [exec c] else []) ++ [print 120]) := by
  obtain ⟨st, h, hst, hsp⟩ := hw
  have hf : byte st f = ({}, []) := by
    unfold byte
    rw [if_neg (by omega), if_pos hst]
    unfold inControl
    rw [if_neg (by simp [isText]; omega), if_neg (by omega), if_neg (by omega), if_pos (by omega)]
    unfold say
    rw [hsp]
    rfl
  have hx : byte {} 120 = ({}, [print 120]) := by kernel_rfl
  have hc : feed st (if ctl c.toNat then [c] else []) = (st, if ctl c.toNat then [exec c] else []) := by
    cases hct : ctl c.toNat with
    | false => rfl
    | true =>
      unfold ctl at hct
      simp only [decide_eq_true_eq] at hct
      have : byte st c = (st, [exec c]) := by
        unfold byte
        rw [if_neg (by omega), if_pos hst]
        unfold inControl
        rw [if_pos (by simp [isText]; omega)]
        unfold command
        rw [if_neg (by omega), if_neg (by omega), if_neg (by omega)]
      simp [feed, this]
  rw [feed_append, feed_append, feed_append, h]
  simp only [hc, feed, hf, hx]
  simp
end es
theorem RowB.take {w : World} {B : Nat} {o : Option Addr} {n c : Nat} {l : List UInt8} (h : RowB w B (.slice o n c) l) (m : Nat) (hm : m ≤ l.length) : RowB w B (.slice o m c) (l.take m) := by
  have hlen : l.length = n := by
    obtain ⟨o', c', e, _⟩ := Nums.of_own h
    cases e; rfl
  have hl2 : (l.take m).length = m := by rw [List.length_take]; omega
  refine ⟨by simp [cs, u8s], ?_⟩
  rw [hl2]
  rcases h.2 with ⟨e, h0⟩ | ⟨g, cap, cur, e, hB, hg, hc, hmx, hs, ht⟩
  · cases e
    obtain rfl : m = 0 := by omega
    exact .inl ⟨rfl, rfl⟩
  · cases e
    refine .inr ⟨g, c, cur, rfl, hB, hg, by omega, hmx, hs, ?_⟩
    have : cur.toList.take (m * 1) = (cur.toList.take (l.length * 1)).take (m * 1) := by rw [List.take_take]; congr 1; omega
    rw [this, ht]
    simp [cs, u8s]
set_option maxRecDepth 100000 in
set_option maxHeartbeats 6400000 in
theorem spoils_any (o : Option Addr) (n cap : Nat) (ps : List Int) (which : Int) (c f0 : UInt8) (w : World) (ht : UTabs w ∧ PTab w) (hx : Nums .i64 w o n cap ps ∧ ∀ z ∈ ps, I64 z) (_hi : I64 which) {L : Nat} (_hn : n * L ≤ reachBytes) :
    Calls Tryd.prog 8 #[.slice o n cap, .int .i64 which, .int .u8 c.toNat, .int .u8 f0.toNat] w fun e w' => e = .returned (.bool true) ∧ Below w.heap.size w w' := by
  have HA := Lib.hid (alive_any w ht.1 ht.2)
  have HX := Lib.hid hx.1; have HI := Lib.hid hx.2; have HT := Lib.hid ht.1; have HP := Lib.hid ht.2
  have hwh := i64_and1023 which
  obtain ⟨m0, hm0⟩ : ∃ m0 : Nat, which % 1024 = (m0 : Int) := ⟨(which % 1024).toNat, by omega⟩
  rw [hm0] at hwh
  have hm6 : m0 % 6 < 6 := Nat.mod_lt _ (by omega)
  have hrem : Int.tmod (m0 : Int) 6 = ((m0 % 6 : Nat) : Int) := by rw [Int.tmod_eq_emod_of_nonneg (by omega)]; rfl
  clear hx ht _hi hm0
  go_enter Tryd.func8, Tryd.ntmps8
  go_wp2_with fail
  refine HA.out.mono ?_
  rintro e w1 ⟨rfl, hb1⟩
  have hway := es.way_ok (m0 % 6) hm6
  have hwl := es.way_len (m0 % 6) hm6
  have hcell : (w1.alloc (.cells #[.string ⟨#[49, 58, 50]⟩, .string ⟨#[49, 60]⟩, .string ⟨#[63, 49, 63]⟩, .string ⟨#[32, 49]⟩, .string ⟨#[33, 33, 33]⟩, .string ⟨#[49, 32, 59]⟩] 9)).cell? ⟨w1.heap.size, m0 % 6, none⟩ = some (.string ⟨(es.ways.getD (m0 % 6) []).toArray⟩) := by
    rw [World.cell?_alloc_new]
    generalize m0 % 6 = m at *
    obtain rfl | rfl | rfl | rfl | rfl | rfl : m = 0 ∨ m = 1 ∨ m = 2 ∨ m = 3 ∨ m = 4 ∨ m = 5 := by omega
    all_goals rfl
  have hm6i : ((m0 % 6 : Nat) : Int) < 6 := by omega
  generalize m0 % 6 = m at *
  generalize es.ways.getD m [] = way at *
  have HWAY := Lib.hid hway
  have HB1 := Lib.hid (hb1.alloc hb1.size (.cells #[.string ⟨#[49, 58, 50]⟩, .string ⟨#[49, 60]⟩, .string ⟨#[63, 49, 63]⟩, .string ⟨#[32, 49]⟩, .string ⟨#[33, 33, 33]⟩, .string ⟨#[49, 32, 59]⟩] 9))
  clear hway hb1 HA
  go_wp2_with fail
  generalize hWA : w1.alloc (.cells #[.string ⟨#[49, 58, 50]⟩, .string ⟨#[49, 60]⟩, .string ⟨#[63, 49, 63]⟩, .string ⟨#[32, 49]⟩, .string ⟨#[33, 33, 33]⟩, .string ⟨#[49, 32, 59]⟩] 9) = wa at *
  have hp : w1.heap.size + 1 = wa.heap.size := by rw [← hWA]; simp
  rw [hp]
  have hop := OP.start HB1.out (HT.out.step HB1.out)
  clear hWA hp hcell
  generalize wa.heap.size = p at *
  generalize wa.alloc (.cells Tryd.zeroCells33 33) = W at *
  have HC := Lib.hid (csiB_any 0 32 ps o n cap W (HX.out.below hop.bel) (fun z hz => HI.out z hz) (HP.out.step hop.bel) (by omega))
  have HOP := Lib.hid hop
  clear hop HB1
  refine HC.out.mono ?_
  rintro e w2 ⟨ro, rc, rfl, hO, hb2⟩
  have hL : 3 ≤ (es.csiB 0 ps 32).length := by simp [es.csiB]; omega
  have hpre : (es.csiB 0 ps 32).take 2 = [27, 91] := by simp [es.csiB]
  have hs := (slice_hi_b hO.nums 2 (by omega) 2 rfl).1
  have hrow : RowB w2 w.heap.size (.slice ro (es.csiB 0 ps 32).length rc) (es.csiB 0 ps 32) := own_base hO.row HOP.out.bel.size
  have hrow2 := hrow.take 2 (by omega)
  rw [hpre] at hrow2
  have HR2 : Hid (RP w w2 p {} (.slice ro 2 rc) [27, 91]) := Lib.hid ⟨hrow2, fun e => by
    have h1 := HOP.out.ps.lt
    cases ro with
    | none => cases e
    | some a => cases e; have := (hO.lt a rfl).1; omega, HOP.out.step hb2⟩
  clear hO hb2 hrow hrow2 hpre HC HOP
  generalize (es.csiB 0 ps 32).length = Ln at *
  go_upto_region 8 with (at_builtin; refine wpList_rps rfl _ _ rfl w _ p {} (.slice ro 2 rc) [27, 91] rfl HR2.out HT.out way rfl (by simp; omega) (fun v' w' r1 => ?_); have HR3 := Lib.hid r1; clear r1)
  clear HR2 hs
  go_cut [37] (fun s37 wx => s37 = .bool (decide (f0.toNat < 64 ∨ 126 < f0.toNat)) ∧ wx = w')
  case first =>
    by_cases h1 : f0.toNat < 64
    · have h1i : ((f0.toNat : Nat) : Int) < 64 := by omega
      go_wp2_with fail
      go_meet
      exact ⟨by simp [h1], rfl⟩
    · have h1i : ¬ ((f0.toNat : Nat) : Int) < 64 := by omega
      by_cases h2 : 126 < f0.toNat
      · have h2i : (126 : Int) < ((f0.toNat : Nat) : Int) := by omega
        go_wp2_with fail
        go_meet
        exact ⟨by simp [h1, h2], rfl⟩
      · have h2i : ¬ (126 : Int) < ((f0.toNat : Nat) : Int) := by omega
        go_wp2_with fail
        go_meet
        exact ⟨by simp [h1, h2], rfl⟩
  case rest =>
  obtain ⟨rfl, rfl⟩ := hcut
  obtain ⟨bad, hbad⟩ : ∃ bad, bad = decide (f0.toNat < 64 ∨ 126 < f0.toNat) := ⟨_, rfl⟩
  rw [← hbad]
  go_upto_if 37 with fail
  go_cut [3] (fun s3 wx => ∃ F : UInt8, s3 = .int .u8 F.toNat ∧ 64 ≤ F.toNat ∧ F.toNat ≤ 126 ∧ wx = wc)
  case first =>
    by_cases h1 : f0.toNat < 64 ∨ 126 < f0.toNat
    · obtain rfl : bad = true := hbad.trans (decide_eq_true h1)
      clear hbad h1
      go_wp2_with fail
      go_meet
      exact ⟨109, rfl, by decide, by decide, rfl⟩
    · obtain rfl : bad = false := hbad.trans (decide_eq_false h1)
      have h2 : 64 ≤ f0.toNat ∧ f0.toNat ≤ 126 := by omega
      have H2 := Lib.hid h2
      clear h1 h2 hbad
      go_wp2_with fail
      go_meet
      exact ⟨f0, rfl, H2.out.1, H2.out.2, rfl⟩
  case rest =>
  obtain ⟨F, rfl, hF1, hF2, rfl⟩ := hcut
  have HHF := Lib.hid (And.intro hF1 hF2)
  go_upto_region 10 with fail
  go_cut [13] (fun s13 wx => s13 = .bool (es.ctl c.toNat) ∧ wx = wc)
  case first =>
    by_cases h32 : c.toNat < 32
    · have h32i : ((c.toNat : Nat) : Int) < 32 := by omega
      by_cases h24 : c.toNat = 24
      · have e1 : (((c.toNat : Nat) : Int) == 24) = true := by simp [h24]
        have e2 : (((c.toNat : Nat) : Int) != 24) = false := by simp [h24]
        have HC : Hid (es.ctl c.toNat = false) := Lib.hid (by simp [es.ctl, h24])
        clear h24 h32
        go_wp2_with fail
        go_meet
        exact ⟨by rw [HC.out], rfl⟩
      · have e1 : (((c.toNat : Nat) : Int) == 24) = false := by simp; omega
        have e2 : (((c.toNat : Nat) : Int) != 24) = true := by simp; omega
        by_cases h26 : c.toNat = 26
        · have e3 : (((c.toNat : Nat) : Int) == 26) = true := by simp [h26]
          have e4 : (((c.toNat : Nat) : Int) != 26) = false := by simp [h26]
          have HC : Hid (es.ctl c.toNat = false) := Lib.hid (by simp [es.ctl, h26])
          clear h26 h24 h32
          go_wp2_with fail
          go_meet
          exact ⟨by rw [HC.out], rfl⟩
        · have e3 : (((c.toNat : Nat) : Int) == 26) = false := by simp; omega
          have e4 : (((c.toNat : Nat) : Int) != 26) = true := by simp; omega
          by_cases h27 : c.toNat = 27
          · have e5 : (((c.toNat : Nat) : Int) == 27) = true := by simp [h27]
            have e6 : (((c.toNat : Nat) : Int) != 27) = false := by simp [h27]
            have HC : Hid (es.ctl c.toNat = false) := Lib.hid (by simp [es.ctl, h27])
            clear h27 h26 h24 h32
            go_wp2_with fail
            go_meet
            exact ⟨by rw [HC.out], rfl⟩
          · have e5 : (((c.toNat : Nat) : Int) == 27) = false := by simp; omega
            have e6 : (((c.toNat : Nat) : Int) != 27) = true := by simp; omega
            have HC : Hid (es.ctl c.toNat = true) := Lib.hid (by simp [es.ctl, h24, h26, h27, h32])
            clear h27 h26 h24 h32
            go_wp2_with fail
            go_meet
            exact ⟨by rw [HC.out], rfl⟩
    · have h32i : ¬ ((c.toNat : Nat) : Int) < 32 := by omega
      have HC : Hid (es.ctl c.toNat = false) := Lib.hid (by simp [es.ctl, h32])
      clear h32
      go_wp2_with fail
      go_meet
      exact ⟨by rw [HC.out], rfl⟩
  case rest =>
  obtain ⟨rfl, rfl⟩ := hcut
  have hF1 := HHF.out.1
  have hF2 := HHF.out.2
  have HFD := Lib.hid (es.feed_spoiled way c F HWAY.out hF1 hF2)
  clear hF1 hF2
  cases hct : es.ctl c.toNat
  · rw [hct] at HFD
    rw [if_neg (by simp), if_neg (by simp), List.append_nil, List.nil_append] at HFD
    have HRA3 := Lib.hid (HR3.out.step (below_one _ (.cells #[.int .u8 F.toNat] 5)))
    have HBA3 : Hid (Bts (wc.alloc (.cells #[.int .u8 F.toNat] 5)) (some ⟨wc.heap.size, 0, none⟩) 1 1 [F]) := Lib.hid (nums_one _ _ _)
    go_wp2_with (at_builtin; refine wpList_rp rfl _ _ rfl w _ p {} v' ([27, 91] ++ way) rfl HRA3.out HT.out (some ⟨wc.heap.size, 0, none⟩) 1 1 [F] rfl HBA3.out (by simp; omega) ?_)
    intro v4 w4 r4
    have HR4 : Hid (RP w w4 p {} v4 ([27, 91] ++ way ++ [F])) := Lib.hid (by simpa using r4)
    clear r4 HRA3 HBA3 HR3
    have HRA4 := Lib.hid (HR4.out.step (below_one _ (.cells #[.int .u8 120] 5)))
    have HBA4 : Hid (Bts (w4.alloc (.cells #[.int .u8 120] 5)) (some ⟨w4.heap.size, 0, none⟩) 1 1 [120]) := Lib.hid (nums_one _ _ _)
    go_wp2_with (at_builtin; refine wpList_rp rfl _ _ rfl w _ p {} v4 ([27, 91] ++ way ++ [F]) rfl HRA4.out HT.out (some ⟨w4.heap.size, 0, none⟩) 1 1 [120] rfl HBA4.out (by simp; omega) ?_)
    intro v6 w6 r6
    have HR6 : Hid (RP w w6 p {} v6 ([27, 91] ++ way ++ [F] ++ [120])) := Lib.hid (by simpa using r6)
    clear r6 HRA4 HBA4 HR4
    obtain ⟨o7, c7, hv7, hF7⟩ := HR6.out.feed (way.length + 4) (by simp) (by omega)
    subst hv7
    rw [HFD.out] at hF7
    have HF := Lib.hid hF7
    clear hF7 HR6
    go_wp2_with fail
    refine HF.out.mono ?_
    rintro e w8 ⟨ro8, rc8, rfl, hI8, hop8⟩
    have HOP := Lib.hid hop8
    obtain ⟨b8, rfl⟩ := hI8.some (by simp)
    obtain ⟨p0, q0, l0, f0', _⟩ := hI8.ask b8 rfl 0 (by simp)
    have a1 : w8.cell? ⟨b8, 0, none⟩ = some (.int .i64 1) := f0' 0 (by omega)
    have a3 : w8.cell? ⟨b8, 1, none⟩ = some (.int .i32 120) := f0' 1 (by omega)
    clear hI8 hop8 HF f0'
    have HID : Hid (es.idle {} = true) := Lib.hid rfl
    go_wp2_with fail
    refine HOP.out.ps.idle.mono ?_
    rintro e w9 ⟨rfl, rfl⟩
    rw [HID.out]
    go_wp2_with fail
    go_ret
    exact ⟨rfl, HOP.out.bel⟩
  · rw [hct] at HFD
    rw [if_pos rfl, if_pos rfl] at HFD
    have HRA3 := Lib.hid (HR3.out.step (below_one _ (.cells #[.int .u8 c.toNat] 5)))
    have HBA3 : Hid (Bts (wc.alloc (.cells #[.int .u8 c.toNat] 5)) (some ⟨wc.heap.size, 0, none⟩) 1 1 [c]) := Lib.hid (nums_one _ _ _)
    go_wp2_with (at_builtin; refine wpList_rp rfl _ _ rfl w _ p {} v' ([27, 91] ++ way) rfl HRA3.out HT.out (some ⟨wc.heap.size, 0, none⟩) 1 1 [c] rfl HBA3.out (by simp; omega) ?_)
    intro v4 w4 r4
    have HR4 : Hid (RP w w4 p {} v4 ([27, 91] ++ way ++ [c])) := Lib.hid (by simpa using r4)
    clear r4 HRA3 HBA3 HR3
    have HRA4 := Lib.hid (HR4.out.step (below_one _ (.cells #[.int .u8 F.toNat] 5)))
    have HBA4 : Hid (Bts (w4.alloc (.cells #[.int .u8 F.toNat] 5)) (some ⟨w4.heap.size, 0, none⟩) 1 1 [F]) := Lib.hid (nums_one _ _ _)
    go_wp2_with (at_builtin; refine wpList_rp rfl _ _ rfl w _ p {} v4 ([27, 91] ++ way ++ [c]) rfl HRA4.out HT.out (some ⟨w4.heap.size, 0, none⟩) 1 1 [F] rfl HBA4.out (by simp; omega) ?_)
    intro v5 w5 r5
    have HR5 : Hid (RP w w5 p {} v5 ([27, 91] ++ way ++ [c] ++ [F])) := Lib.hid (by simpa using r5)
    clear r5 HRA4 HBA4 HR4
    have HRA5 := Lib.hid (HR5.out.step (below_one _ (.cells #[.int .u8 120] 5)))
    have HBA5 : Hid (Bts (w5.alloc (.cells #[.int .u8 120] 5)) (some ⟨w5.heap.size, 0, none⟩) 1 1 [120]) := Lib.hid (nums_one _ _ _)
    go_wp2_with (at_builtin; refine wpList_rp rfl _ _ rfl w _ p {} v5 ([27, 91] ++ way ++ [c] ++ [F]) rfl HRA5.out HT.out (some ⟨w5.heap.size, 0, none⟩) 1 1 [120] rfl HBA5.out (by simp; omega) ?_)
    intro v6 w6 r6
    have HR6 : Hid (RP w w6 p {} v6 ([27, 91] ++ way ++ [c] ++ [F] ++ [120])) := Lib.hid (by simpa using r6)
    clear r6 HRA5 HBA5 HR5
    obtain ⟨o7, c7, hv7, hF7⟩ := HR6.out.feed (way.length + 5) (by simp) (by omega)
    subst hv7
    rw [HFD.out] at hF7
    have HF := Lib.hid hF7
    clear hF7 HR6
    go_wp2_with fail
    refine HF.out.mono ?_
    rintro e w8 ⟨ro8, rc8, rfl, hI8, hop8⟩
    have HOP := Lib.hid hop8
    obtain ⟨b8, rfl⟩ := hI8.some (by simp)
    obtain ⟨p0, q0, l0, f0', _⟩ := hI8.ask b8 rfl 0 (by simp)
    obtain ⟨p1, q1, l1, f1', _⟩ := hI8.ask b8 rfl 1 (by simp)
    have a1 : w8.cell? ⟨b8, 0, none⟩ = some (.int .i64 2) := f0' 0 (by omega)
    have a2 : w8.cell? ⟨b8, 2, none⟩ = some (.int .u8 c.toNat) := f0' 2 (by omega)
    have a3 : w8.cell? ⟨b8, 8, none⟩ = some (.int .i32 120) := f1' 1 (by omega)
    clear hI8 hop8 HF f0' f1'
    have HID : Hid (es.idle {} = true) := Lib.hid rfl
    go_wp2_with fail
    refine HOP.out.ps.idle.mono ?_
    rintro e w9 ⟨rfl, rfl⟩
    rw [HID.out]
    go_wp2_with fail
    go_ret
    exact ⟨rfl, HOP.out.bel⟩
end Go.Proofs.YtijfpfkmfibjjaaDoor
