/- The walk of SgrBetween. -/
import Derived.Test.YtgkodjkhhmcnnaaDoorSgrRBtw
import Derived.Test.YtgkodjkhhmcnnaaDoorSgrApply
import Derived.Test.YtgkodjkhhmcnnaaDoorEscTwo
namespace Go.Proofs.YtgkodjkhhmcnnaaDoor.S5
open Go.RowKit
/-- where the loop over the acts stands -/
structure BT (w w7 wr : World) (B q : Nat) (s t K : sg.St) : Prop where
  two : Two w wr B s t
  bel : Below w7.heap.size w7 wr
  st : StAt wr q K
theorem sg.acts_len (s t : sg.St) : (sg.acts s t).length ≤ 1 := by unfold sg.acts; split <;> simp
theorem sg.acts_one {s t : sg.St} {k : Nat} (h : k < (sg.acts s t).length) : k = 0 ∧ (sg.acts s t).getD k es.act0 = { kind := 4, final := 109, params := sg.params t } := by
  unfold sg.acts at *
  split at h
  · simp at h
  · rename_i hne
    simp at h
    subst h
    rw [if_neg hne]
    exact ⟨rfl, rfl⟩
theorem sg.acts_nil {s t : sg.St} (h : (sg.acts s t).length = 0) : sg.known s = sg.known t := by
  unfold sg.acts at h
  split at h
  · assumption
  · simp at h
theorem sg.btw_len (s t : sg.St) : (sg.btw s t).length ≤ 1000 := by
  unfold sg.btw
  split
  · simp
  · have h1 := es.upto_len 0 (sg.params t) (min (sg.params t).length 16)
    have h2 : es.csiB 0 (sg.params t) 109 = es.upto 0 (sg.params t) (min (sg.params t).length 16) ++ [109] := by unfold es.csiB es.upto; rfl
    rw [h2, List.length_append]
    simp only [List.length_cons, List.length_nil]
    omega
theorem Two.keptP {w X X' : World} {B p : Nat} {s t : sg.St} (h : Two w X B s t) (hk : Go.Proofs.YtgkodjkhhmcnnaaDoor.Kept X X' (· = p)) (hp : B + 1 < p) : Two w X' B s t :=
  ⟨hk.same h.st0 (by omega), hk.same h.st1 (by omega), h.bel.trans (hk.below (Nat.le_of_lt h.st0.cells.lt) (fun k hk => by omega))⟩
theorem BT.put {w w7 wr : World} {B q : Nat} {s t K : sg.St} (h : BT w w7 wr B q s t K) (hq : q = w7.heap.size) (hB : B + 1 < q) (R : sg.St) : BT w w7 (((wr.setCell ⟨q, 0, none⟩ (.int .i64 R.fg)).setCell ⟨q, 1, none⟩ (.int .i64 R.bg)).setCell ⟨q, 2, none⟩ (.int .i64 R.at_)) B q s t R :=
  ⟨⟨h.two.st0.kept (kept_set3 q _ _ _) (by omega), h.two.st1.kept (kept_set3 q _ _ _) (by omega), below_set3 h.two.bel (by omega) _ _ _⟩, below_set3 h.bel (by omega) _ _ _, st_set3 h.st R.fg R.bg R.at_⟩
theorem BT.step {w w7 wr X : World} {B q : Nat} {s t K : sg.St} (h : BT w w7 wr B q s t K) (hb : Below wr.heap.size wr X) : BT w w7 X B q s t K :=
  ⟨h.two.step hb, h.bel.trans (hb.mono h.bel.size), h.st.below hb h.st.cells.lt⟩
set_option maxRecDepth 100000 in
set_option maxHeartbeats 3200000 in
theorem between_law (f g a f' g' a' : Int) (w : World) (ht : (UTabs w ∧ PTab w) ∧ Tabs w) :
    Calls Tryd.prog 4 #[.agg #[.int .i64 f, .int .i64 g, .int .i64 a], .agg #[.int .i64 f', .int .i64 g', .int .i64 a']] w fun e w' => e = .returned (.bool true) ∧ Below w.heap.size w w' := by
  have z1 := eqgst
  have z2 := run_eq_st
  have H0 := Lib.hid (two_new w ⟨f, g, a⟩ ⟨f', g', a'⟩)
  have HT := Lib.hid ht.2; have HU := Lib.hid ht.1.1; have HPT := Lib.hid ht.1.2
  clear ht
  go_enter Tryd.func4, Tryd.ntmps4
  go_wp2_with fail
  refine (alive_any _ (HT.out.below H0.out.bel HT.out.two)).mono ?_
  rintro e w1 ⟨rfl, hb⟩
  have H1 := Lib.hid (H0.out.step hb)
  clear hb H0
  obtain ⟨k0, k1, k2, f0, f1, f2, u0⟩ := H1.out.st0.cells
  obtain ⟨l0, l1, l2, g0, g1, g2, u1⟩ := H1.out.st1.cells
  go_wp2_with fail
  refine (between_any f g a f' g' a' w1 (HT.out.below H1.out.bel HT.out.two) (HPT.out.step H1.out.bel)).mono ?_
  have hL1 := sg.btw_len ⟨f, g, a⟩ ⟨f', g', a'⟩
  have HFD := Lib.hid (sg.feed_btw ⟨f, g, a⟩ ⟨f', g', a'⟩)
  have hA1 := sg.acts_len ⟨f, g, a⟩ ⟨f', g', a'⟩
  have HA2 := Lib.hid (fun k h => sg.acts_one (s := ⟨f, g, a⟩) (t := ⟨f', g', a'⟩) (k := k) h)
  have HA0 := Lib.hid (sg.acts_nil (s := ⟨f, g, a⟩) (t := ⟨f', g', a'⟩))
  have HRB := Lib.hid (fun X => refBetween_any f g a f' g' a' X)
  generalize sg.btw ⟨f, g, a⟩ ⟨f', g', a'⟩ = L at *
  generalize sg.acts ⟨f, g, a⟩ ⟨f', g', a'⟩ = A at *
  rintro e w2 ⟨ro, rc, rfl, hO, hb⟩
  have H2 := Lib.hid (H1.out.step hb)
  have HO := Lib.hid hO
  clear hb hO k0 k1 k2 f0 f1 f2 u0 l0 l1 l2 g0 g1 g2 u1 H1
  obtain ⟨k0, k1, k2, f0, f1, f2, u0⟩ := H2.out.st0.cells
  obtain ⟨l0, l1, l2, g0, g1, g2, u1⟩ := H2.out.st1.cells
  obtain ⟨n, hn⟩ : ∃ n, L.length = n := ⟨_, rfl⟩
  rw [hn] at HO HRB hL1 ⊢
  have HN := Lib.hid hn
  clear hn
  go_wp2_with fail
  refine (HRB.out _).mono ?_
  rintro e w3 ⟨so, sc, rfl, hS, hb⟩
  have H3 := Lib.hid (H2.out.step hb)
  have HO3 := Lib.hid (HO.out.below hb)
  have HSB := Lib.hid (same_bytes ro n rc (u8s L) so n sc (u8s L) w3 (HO.out.below hb) hS)
  rw [show decide (u8s L = u8s L) = true by simp] at HSB
  clear hb hS k0 k1 k2 f0 f1 f2 u0 l0 l1 l2 g0 g1 g2 u1 H2 HO HRB
  go_wp2_with fail
  refine HSB.out.mono ?_
  rintro e w4 ⟨rfl, nq, hw4⟩
  have hb4 : Below w3.heap.size w3 w4 := hw4 ▸ below_drewN (Below.refl _ _) nq
  have H4 := Lib.hid (H3.out.step hb4)
  have HO4 := Lib.hid (HO3.out.below hb4)
  clear hw4 hb4 H3 HO3 HSB
  have hp1 : w.heap.size + 1 < w4.heap.size := H4.out.st1.cells.lt
  go_upto_region 7 with fail
  have hb5 := below_one w4 (.cells Tryd.zeroCells33 33)
  have H5 := Lib.hid (H4.out.step hb5)
  have HP5 := Lib.hid (PG.new (HU.out.step H4.out.bel))
  have HO5 := Lib.hid (HO4.out.below hb5)
  have HOF := Lib.hid (Go.Proofs.YtgkodjkhhmcnnaaDoor.Off.of HO4.out (Nat.le_refl _))
  generalize w4.alloc (.cells Tryd.zeroCells33 33) = w5 at *
  generalize w4.heap.size = p at *
  clear hb5 H4 HO4
  have HF := Lib.hid (feed_pg p {} ro n rc L w5 HP5.out HO5.out (fun h0 d hd e => by have := HOF.out h0 d hd; omega) (by omega))
  rw [HFD.out] at HF
  obtain ⟨m, hm⟩ : ∃ m, A.length = m := ⟨_, rfl⟩
  dsimp only at HF
  rw [hm] at HF hA1
  have HM := Lib.hid hm
  clear hm
  go_wp2_with fail
  refine HF.out.mono ?_
  rintro e w6 ⟨xo, xc, rfl, hA, _, hK⟩
  have H6 := Lib.hid (H5.out.keptP hK hp1)
  obtain ⟨xo', xc', hxe, hxin, _⟩ := hA.in_
  obtain ⟨rfl, -, rfl⟩ := Value.slice.inj hxe
  rw [HM.out] at hxin
  have HXI := Lib.hid hxin
  have hmc : m ≤ xc := hxin.le
  have hxm : xc ≤ 9223372036854775807 := hxin.max
  obtain ⟨k0, k1, k2, f0, f1, f2, u0⟩ := H6.out.st0.cells
  clear hA hK hxe hxin HF H5 HP5 HO5 HOF
  go_wp2_with fail
  refine (clean_any f g a _).mono ?_
  rintro e w7 ⟨rfl, hb⟩
  have HXI7 := Lib.hid (HXI.out.below hb)
  have H7 := Lib.hid (H6.out.step hb)
  have hq1 : w.heap.size + 1 < w7.heap.size := H7.out.st1.cells.lt
  have HK12 : Hid (m = 0 → sg.known ⟨f, g, a⟩ = sg.known ⟨f', g', a'⟩) := Lib.hid (fun h => HA0.out (by rw [HM.out]; exact h))
  have HAP : Hid (∀ s : sg.St, sg.apply s (sg.params ⟨f', g', a'⟩) = sg.known ⟨f', g', a'⟩) := Lib.hid (fun s => sg.apply_params s _)
  have HCB := Lib.hid (fun X => clean_any f' g' a' X)
  have HPI := Lib.hid (params_i64 ⟨f', g', a'⟩)
  generalize sg.known ⟨f, g, a⟩ = K1 at *
  generalize sg.known ⟨f', g', a'⟩ = K2 at *
  have HB8 : Hid (BT w w7 (w7.alloc (stObj K1)) w.heap.size w7.heap.size ⟨f, g, a⟩ ⟨f', g', a'⟩ K1) := Lib.hid ⟨H7.out.step (below_one _ _), below_one _ _, StAt.new w7 K1⟩
  clear hb k0 k1 k2 f0 f1 f2 u0 H6 HXI H7
  go_upto_region 9 with fail
  generalize w7.alloc (stObj K1) = w8 at *
  obtain ⟨q, hq⟩ : ∃ q, w7.heap.size = q := ⟨_, rfl⟩
  rw [hq] at HB8 hq1 ⊢
  have HQ := Lib.hid hq.symm
  clear hq
  go_wp2_with fail
  go_loopg [28] m (fun gg s28 wr => ∃ k : Nat, s28 = .int .i64 k ∧ k ≤ m ∧ m - k ≤ gg ∧ Hid (BT w w7 wr w.heap.size q ⟨f, g, a⟩ ⟨f', g', a'⟩ (if k = 0 then K1 else K2)))
  case atStart => exact ⟨0, rfl, Nat.zero_le _, by omega, by rw [if_pos rfl]; exact HB8⟩
  case round =>
    clear HB8
    obtain ⟨k, rfl, hk, hgg, HB⟩ := hrel
    by_cases hlt : k < m
    · obtain ⟨rfl, hact⟩ := HA2.out k (by rw [HM.out]; exact hlt)
      obtain ⟨b, po, pc, rfl, hbl, h7, hn7⟩ := (HXI7.out.below HB.out.bel).at_ 0 hlt
      rw [hact] at h7 hn7
      rw [if_pos rfl] at HB
      have c0 : wr.cell? ⟨b, 0, none⟩ = some (.int .i64 4) := h7 0 (by omega)
      have c1 : wr.cell? ⟨b, 1, none⟩ = some (.int .i32 0) := h7 1 (by omega)
      have c2 : wr.cell? ⟨b, 2, none⟩ = some (.int .u8 109) := h7 2 (by omega)
      have c3 : wr.cell? ⟨b, 3, none⟩ = some (.int .u8 0) := h7 3 (by omega)
      have c4 : wr.cell? ⟨b, 4, none⟩ = some (.string ⟨#[]⟩) := h7 4 (by omega)
      have c5 : wr.cell? ⟨b, 5, none⟩ = some (.slice po (sg.params ⟨f', g', a'⟩).length pc) := h7 5 (by omega)
      have c6 : wr.cell? ⟨b, 6, none⟩ = some (.string ⟨#[]⟩) := h7 6 (by omega)
      have hn8 : Nums .i64 wr po (sg.params ⟨f', g', a'⟩).length pc (sg.params ⟨f', g', a'⟩) := hn7
      generalize sg.params ⟨f', g', a'⟩ = ps at *
      obtain ⟨pl, hpl⟩ : ∃ pl, ps.length = pl := ⟨_, rfl⟩
      rw [hpl] at c5 hn8
      have HN8 := Lib.hid (ints_of hn8)
      obtain ⟨k0, k1, k2, f0, f1, f2, u0⟩ := HB.out.st.cells
      clear h7 hn7 hn8 hact hpl
      have hmi : (0 : Int) < (m : Int) := by omega
      have hb9 := below_one wr (.cells #[.int .i64 4, .int .i32 0, .int .u8 109, .int .u8 0, .string ⟨#[]⟩, .slice po pl pc, .string ⟨#[]⟩] 45)
      have HB9 := Lib.hid (HB.out.step hb9)
      have HAPL := Lib.hid (apply_any K1.fg K1.bg K1.at_ po pl pc ps _ (HN8.out.below hb9) HPI.out (HT.out.below HB9.out.two.bel HT.out.two))
      rw [show sg.apply ⟨K1.fg, K1.bg, K1.at_⟩ ps = K2 from HAP.out K1] at HAPL
      clear hb9
      go_wp2_with fail
      refine HAPL.out.mono ?_
      rintro e w10 ⟨rfl, hb10⟩
      have HB10 := Lib.hid (HB9.out.step hb10)
      have HB11 := Lib.hid (HB10.out.put HQ.out hq1 K2)
      clear k0 k1 k2 f0 f1 f2 u0 c0 c1 c2 c3 c4 c5 c6 hb10
      obtain ⟨k0, k1, k2, f0, f1, f2, u0⟩ := HB10.out.st.cells
      go_wp2_with fail
      go_roundg (m - (0 + 1))
      case measure => omega
      case rel => exact ⟨1, by go_num, by omega, Nat.le_refl _, by rw [if_neg (by decide)]; exact HB11⟩
    · obtain rfl : k = m := by omega
      have hKK : (if k = 0 then K1 else K2) = K2 := by
        split
        · exact HK12.out (by assumption)
        · rfl
      rw [hKK] at HB
      obtain ⟨k0, k1, k2, f0, f1, f2, u0⟩ := HB.out.st.cells
      obtain ⟨l0, l1, l2, g0, g1, g2, u1⟩ := HB.out.two.st1.cells
      have z3 : eq3 K2.fg K2.bg K2.at_ K2.fg K2.bg K2.at_ = true := eq3_self _ _ _
      have hmi : (k : Int) ≤ 1 := by omega
      have hki : ¬ (k : Int) < (k : Int) := by omega
      clear hKK
      go_upto_region 16 with fail
      go_region_with (go_at_call 15; refine (HCB.out _).mono ?_; rintro e wz ⟨rfl, hbz⟩; have HZ := Lib.hid (HB.out.step ((below_drewN (Below.refl _ wr) 1).trans hbz)); obtain ⟨j0, j1, j2, i0, i1, i2, y0⟩ := HZ.out.st.cells; clear hbz)
      all_goals go_wp2_with fail
      all_goals go_ret
      all_goals exact ⟨rfl, HZ.out.two.bel⟩
end Go.Proofs.YtgkodjkhhmcnnaaDoor.S5
