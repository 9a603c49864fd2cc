/- The walk of EscParts. -/
import Derived.Test.YtijfpfkmfibjjaaDoorEscSpread
import Derived.Test.YtijfpfkmfibjjaaDoorGlSlh
namespace Go.Proofs.YtijfpfkmfibjjaaDoor
open Go.RowKit
attribute [local go_sem ↓ 10000] run_slh_b run_slo_b

theorem es.command_wait (s : es.St) (b : UInt8) (h : s.wait.length ≤ 3) : (es.command s b).1.wait.length ≤ 3 := by
  unfold es.command
  split
  · simp
  split
  · simp
  split <;> exact h
theorem es.inEscape_wait (s : es.St) (b : UInt8) (h : s.wait.length ≤ 3) : (es.inEscape s b).1.wait.length ≤ 3 := by
  unfold es.inEscape
  split
  · exact es.command_wait s b h
  split
  · unfold es.addInter; split <;> exact h
  split
  · simp
  split
  · exact h
  split
  · exact h
  · unfold es.say; simp
theorem es.next_wait (s : es.St) : (es.nextNumber s).wait = s.wait := by unfold es.nextNumber; split <;> rfl
theorem es.addParam_wait (s : es.St) (b : UInt8) : (es.addParam s b).wait = s.wait := by
  unfold es.addParam
  split
  · rfl
  split
  · unfold es.addNumber es.setLast
    split
    · rw [es.next_wait]; split
      · exact es.next_wait s
      · rfl
    · split
      · exact es.next_wait s
      · rfl
  split <;> rfl
theorem es.byte_wait (s : es.St) (b : UInt8) (h : s.wait.length ≤ 3) : (es.byte s b).1.wait.length ≤ 3 := by
  unfold es.byte
  split
  · exact es.inEscape_wait s b h
  split
  · unfold es.inControl
    split
    · exact es.command_wait s b h
    split
    · unfold es.addInter; split <;> exact h
    split
    · rw [es.addParam_wait]; exact h
    split
    · unfold es.say; simp
    · simp
  split
  · unfold es.inString
    split
    · unfold es.say; simp
    split
    · exact h
    split
    · simp
    split
    · unfold es.addText; split <;> exact h
    · exact h
  split
  · unfold es.inClosing
    split
    · unfold es.say; simp
    · exact es.inEscape_wait _ b (by simp)
  · unfold es.inGround
    split
    · exact gl.rest_len _
    · exact es.command_wait _ b (by simp)
theorem es.feed_len : ∀ (l : List UInt8) (s : es.St), s.wait.length ≤ 3 → (es.feed s l).2.length ≤ 4 * l.length
  | [], s, _ => by simp [es.feed]
  | b :: l, s, h => by
    have h1 := es.byte_len s b h
    have h2 := es.feed_len l _ (es.byte_wait s b h)
    simp only [es.feed, List.length_append, List.length_cons]
    omega
/-- where the feeding in pieces stands: A bytes have been fed -/
structure PE (w w2 wr : World) (p : Nat) (l : List UInt8) (A : Nat) (ro : Option Addr) (m rc : Nat) : Prop where
  acts : ActsAt wr w2.heap.size (.slice ro m rc) (es.feed {} (l.take A)).2
  ps : PG wr p (es.feed {} (l.take A)).1
  kept : Kept w2 wr (· = p)
  len : m = (es.feed {} (l.take A)).2.length
theorem PE.bel {w w2 wr : World} {p : Nat} {l : List UInt8} {A : Nat} {ro : Option Addr} {m rc : Nat} (h : PE w w2 wr p l A ro m rc) (hb : Below w.heap.size w w2) (hp : w.heap.size ≤ p) : Below w.heap.size w wr :=
  hb.trans (h.kept.below hb.size (fun k hk => by omega))
theorem PE.short {w w2 wr : World} {p : Nat} {l : List UInt8} {A : Nat} {ro : Option Addr} {m rc : Nat} (h : PE w w2 wr p l A ro m rc) (hA : A ≤ l.length) : m ≤ 4 * A := by
  have h1 := es.feed_len (l.take A) {} (by simp)
  rw [List.length_take] at h1
  have := h.len
  omega
/-- one piece more: what is fed, and what is appended -/
theorem PE.fed {w w2 wr w3 w4 : World} {p : Nat} {l : List UInt8} {A N : Nat} {ro : Option Addr} {m rc : Nat} {v' : Value} (h : PE w w2 wr p l A ro m rc) (hp : p < w2.heap.size) (ht2 : UTabs w2)
    (hs : PG w3 p (es.feed (es.feed {} (l.take A)).1 ((l.drop A).take N)).1) (hk : Kept wr w3 (· = p))
    (hr : ActsAt w4 w2.heap.size v' ((es.feed {} (l.take A)).2 ++ (es.feed (es.feed {} (l.take A)).1 ((l.drop A).take N)).2)) (hg : w3.grownBy w4 (Value.slice ro m rc).ownBlock) (hv : ∀ k, (Value.slice ro m rc).ownBlock = some k → w2.heap.size ≤ k) :
    ∃ ro' m' rc', v' = .slice ro' m' rc' ∧ PE w w2 w4 p l (A + N) ro' m' rc' := by
  have ht : l.take (A + N) = l.take A ++ (l.drop A).take N := List.take_add
  have hsz : w2.heap.size ≤ w3.heap.size := Nat.le_trans h.kept.size hk.size
  have hb4 : Below w2.heap.size w3 w4 := (Below.refl _ _).grown hg hsz hv
  have hfa := es.feed_append {} (l.take A) ((l.drop A).take N)
  rw [← ht] at hfa
  obtain ⟨ro', rc', rfl, _⟩ := hr.in_
  refine ⟨ro', _, rc', rfl, ?_, ?_, ?_, ?_⟩
  · rw [hfa]; exact hr
  · rw [hfa]
    obtain ⟨c, hc⟩ := hs.at_
    exact ⟨⟨c, hc.below hb4 hp⟩, hs.good, hs.tabs.below hb4 ht2.lt.1 ht2.lt.2⟩
  · exact (h.kept.trans hk (fun _ _ e => e)).trans ⟨hb4.os, hb4.tape, hb4.output, hb4.size, fun k hk' hn => hb4.block k (Nat.lt_of_not_le fun e => hn e)⟩ (S' := fun k => w2.heap.size ≤ k) (fun k hk' e => by omega)
  · rw [hfa]
set_option maxRecDepth 100000 in
set_option maxHeartbeats 3200000 in
theorem parts_any (o : Option Addr) (n cap : Nat) (l : List UInt8) (o' : Option Addr) (n' cap' : Nat) (zs : List Int) (w : World) (ht : UTabs w ∧ PTab w) (hx : Bts w o n cap l) (hz : Nums .i64 w o' n' cap' zs ∧ ∀ z ∈ zs, I64 z) (hn : n ≤ 1048576) (_hn' : n' ≤ 1048576) :
    Calls Tryd.prog 4 #[.slice o n cap, .slice o' n' cap'] w fun e w' => e = .returned (.bool true) ∧ Below w.heap.size w w' := by
  have HA := Lib.hid (alive_any w ht.1 ht.2)
  have hmx : cap ≤ 9223372036854775807 := hx.max
  have hle := hx.le
  have hmx' : cap' ≤ 9223372036854775807 := hz.1.max
  have hle' := hz.1.le
  have hsz := hx.size
  have HX := Lib.hid hx; have HZ := Lib.hid hz.1; have HT := Lib.hid ht.1; have HL := Lib.hid hsz
  clear hx hz ht hsz
  go_enter Tryd.func4, Tryd.ntmps4
  go_wp2_with fail
  refine HA.out.mono ?_
  rintro e w1 ⟨rfl, hb1⟩
  have HP := Lib.hid (TP.start hb1 (HT.out.step hb1))
  clear HA hb1
  go_wp2_with fail
  generalize hp : w1.heap.size = p at *
  generalize hW : ((w1.alloc (.cells Tryd.zeroCells33 33)).alloc (.cells Tryd.zeroCells33 33)) = W at *
  clear hp hW
  have HF := Lib.hid (feed_arg (p + 1) {} o n cap l w W HP.out.qs HX.out HP.out.bel (by have := HP.out.le; omega) (by omega))
  refine HF.out.mono ?_
  rintro e w2 ⟨qo, qc, rfl, h1, h2, h3⟩
  have HP2 := Lib.hid (HP.out.fed2 h2 h3)
  have HQ := Lib.hid h1
  have hWs : p + 1 < W.heap.size := HP.out.size
  have hWs2 : W.heap.size ≤ w2.heap.size := h3.size
  have hpl : w.heap.size ≤ p := HP.out.le
  have hql := es.feed_len l {} (by simp)
  generalize hRQ : (es.feed {} l).2.length = rq at *
  clear h1 h2 h3 HP HF
  have HE0 : Hid (PE w w2 (w2.alloc (.cells #[] 45)) p l 0 (some ⟨w2.heap.size, 0, none⟩) 0 0) := Lib.hid
    ⟨⟨[], rfl, ⟨rfl, .inr ⟨w2.heap.size, 0, #[], rfl, Nat.le_refl _, heap_alloc_new _ _, Nat.le_refl _, by unfold maxLen; omega, rfl, rfl⟩⟩, fun q hq => by cases hq⟩,
      HP2.out.ps.below (below_one _ _), Kept.of_below (below_one _ _) _, rfl⟩
  go_wp2_with fail
  generalize hWA : w2.alloc (.cells #[] 45) = wa at *
  clear hWA
  generalize hg2 : w2.heap.size = B2 at *
  have HG2 := Lib.hid hg2
  clear hg2
  go_loopg [8, 9, 20] n' (fun gg s8 s9 s20 wr => ∃ (k A m : Nat) (ro : Option Addr) (rc : Nat), s20 = .int .i64 k ∧ s9 = .int .i64 A ∧ s8 = .slice ro m rc ∧ k ≤ n' ∧ n' - k ≤ gg ∧ A ≤ n ∧ Hid (PE w w2 wr p l A ro m rc))
  case atStart => exact ⟨0, 0, 0, _, 0, rfl, rfl, rfl, Nat.zero_le _, by omega, Nat.zero_le _, HE0⟩
  case round =>
    clear HE0
    obtain ⟨k, A, m, ro, rc, rfl, rfl, rfl, hk, hgg, hAn, HE⟩ := hrel
    have hAi : (A : Int) ≤ (n : Int) := by omega
    have hlei : (n : Int) ≤ (cap : Int) := by omega
    have hAc : (A : Int) ≤ (cap : Int) := by omega
    have hm4 : m ≤ 4 * A := HE.out.short (by rw [HL.out]; omega)
    have hbel : Below w.heap.size w wr := HE.out.bel HP2.out.bel hpl
    by_cases hlt : k < n'
    · obtain ⟨b, off, rfl, hb, k0⟩ := (HZ.out.below hbel).cell hlt
      have h15 := i64_and15 (zs.getD k 0)
      obtain ⟨N0, hN0⟩ : ∃ N0 : Nat, zs.getD k 0 % 16 = (N0 : Int) := ⟨(zs.getD k 0 % 16).toNat, by omega⟩
      have hN15 : N0 ≤ 15 := by omega
      rw [hN0] at h15
      generalize zs.getD k 0 = z at *
      clear hN0
      by_cases hgt : n < A + N0
      · have rm := fun W ts t k k' x y => run_mn (P := Tryd.prog) (w := W) ts t k k' x y
        have hgi : mn (N0 : Int) ((n : Int) - (A : Int)) = (n : Int) - (A : Int) := by unfold mn; omega
        have hgA : (A : Int) ≤ (A : Int) + ((n : Int) - (A : Int)) := by omega
        have hgB : (A : Int) + ((n : Int) - (A : Int)) ≤ (cap : Int) := by omega
        have hbt := slice_lh (HX.out.below hbel) A (n - A) (by omega)
        rw [u8s_lh] at hbt
        have ho : Off (slo o cap A) (n - A) w.heap.size := (Off.slo (l := A) (Off.of HX.out (Nat.le_refl _))).le (by omega)
        have HF := Lib.hid (feed_pg p _ _ _ _ _ wr HE.out.ps hbt (fun h0 d hd e => by have := ho h0 d hd; omega) (by omega))
        have HH := Lib.hid hbel
        have hlp : ((l.drop A).take (n - A)).length = n - A := by rw [List.length_take, List.length_drop, HL.out]; omega
        obtain ⟨cA, hcA⟩ := HE.out.ps.at_
        have hfl := es.feed_len ((l.drop A).take (n - A)) _ hcA.is.few
        rw [hlp] at hfl
        clear hbt hlp ho hbel hcA
        go_wp2_with fail
        refine HF.out.mono ?_
        rintro e w3 ⟨ro3, rc3, rfl, h1, h2, h3⟩
        have hpB : p < w2.heap.size := by have := HG2.out; omega
        have hBr : w2.heap.size ≤ wr.heap.size := HE.out.kept.size
        have hsz3 : w2.heap.size ≤ w3.heap.size := Nat.le_trans hBr h3.size
        obtain ⟨v', w4, hr, r1, r2, r3⟩ := run_append_acts w3 37 w2.heap.size (.slice ro m rc) _ (HE.out.acts.keptP h3 hpB) ro3 _ rc3 _ (h1.base_le hBr) (by have := HE.out.len; omega) hsz3
        obtain ⟨ro', m', rc', rfl, hPE⟩ := HE.out.fed hpB HP2.out.ps.tabs h2 h3 r1 r2 r3
        have HP4 := Lib.hid hPE
        clear h1 h2 h3 hPE r1 r2 r3 HF HE HH
        generalize (es.feed (es.feed {} (l.take A)).1 ((l.drop A).take (n - A))).2.length = mm at *
        go_wp2_with (at_builtin; refine Lib.wpList_append_run _ rfl _ _ _ _ rfl _ _ rfl rfl _ _ hr ?_)
        go_roundg (n' - (k + 1))
        case measure => omega
        case rel => exact ⟨k + 1, A + (n - A), m', ro', rc', by go_num, by go_num, rfl, by omega, Nat.le_refl _, by omega, HP4⟩
      · have rm := fun W ts t k k' x y => run_mn (P := Tryd.prog) (w := W) ts t k k' x y
        have hgi : mn (N0 : Int) ((n : Int) - (A : Int)) = (N0 : Int) := by unfold mn; omega
        have hgA : (A : Int) ≤ (A : Int) + (N0 : Int) := by omega
        have hgB : (A : Int) + (N0 : Int) ≤ (cap : Int) := by omega
        have hbt := slice_lh (HX.out.below hbel) A (N0) (by omega)
        rw [u8s_lh] at hbt
        have ho : Off (slo o cap A) (N0) w.heap.size := (Off.slo (l := A) (Off.of HX.out (Nat.le_refl _))).le (by omega)
        have HF := Lib.hid (feed_pg p _ _ _ _ _ wr HE.out.ps hbt (fun h0 d hd e => by have := ho h0 d hd; omega) (by omega))
        have HH := Lib.hid hbel
        have hlp : ((l.drop A).take (N0)).length = N0 := by rw [List.length_take, List.length_drop, HL.out]; omega
        obtain ⟨cA, hcA⟩ := HE.out.ps.at_
        have hfl := es.feed_len ((l.drop A).take (N0)) _ hcA.is.few
        rw [hlp] at hfl
        clear hbt hlp ho hbel hcA
        go_wp2_with fail
        refine HF.out.mono ?_
        rintro e w3 ⟨ro3, rc3, rfl, h1, h2, h3⟩
        have hpB : p < w2.heap.size := by have := HG2.out; omega
        have hBr : w2.heap.size ≤ wr.heap.size := HE.out.kept.size
        have hsz3 : w2.heap.size ≤ w3.heap.size := Nat.le_trans hBr h3.size
        obtain ⟨v', w4, hr, r1, r2, r3⟩ := run_append_acts w3 37 w2.heap.size (.slice ro m rc) _ (HE.out.acts.keptP h3 hpB) ro3 _ rc3 _ (h1.base_le hBr) (by have := HE.out.len; omega) hsz3
        obtain ⟨ro', m', rc', rfl, hPE⟩ := HE.out.fed hpB HP2.out.ps.tabs h2 h3 r1 r2 r3
        have HP4 := Lib.hid hPE
        clear h1 h2 h3 hPE r1 r2 r3 HF HE HH
        generalize (es.feed (es.feed {} (l.take A)).1 ((l.drop A).take (N0))).2.length = mm at *
        go_wp2_with (at_builtin; refine Lib.wpList_append_run _ rfl _ _ _ _ rfl _ _ rfl rfl _ _ hr ?_)
        go_roundg (n' - (k + 1))
        case measure => omega
        case rel => exact ⟨k + 1, A + (N0), m', ro', rc', by go_num, by go_num, rfl, by omega, Nat.le_refl _, by omega, HP4⟩
    · obtain rfl : k = n' := by omega
      have hbt := slice_lo (HX.out.below hbel) A (by omega)
      rw [u8s_drop] at hbt
      have ho : Off (slo o cap A) (n - A) w.heap.size := Off.slo (l := A) (Off.of HX.out (Nat.le_refl _))
      have HF := Lib.hid (feed_pg p _ _ _ _ _ wr HE.out.ps hbt (fun h0 d hd e => by have := ho h0 d hd; omega) (by omega))
      have hlp : (l.drop A).length = n - A := by rw [List.length_drop, HL.out]
      obtain ⟨cA, hcA⟩ := HE.out.ps.at_
      have hfl := es.feed_len (l.drop A) _ hcA.is.few
      rw [hlp] at hfl
      have HD : Hid ((l.drop A).take (n - A) = l.drop A) := Lib.hid (by rw [← hlp, List.take_length])
      have HN : Hid (l.take (A + (n - A)) = l) := Lib.hid (by rw [show A + (n - A) = l.length by rw [HL.out]; omega, List.take_length])
      clear hbt hlp ho hbel hcA
      go_wp2_with fail
      refine HF.out.mono ?_
      rintro e w3 ⟨ro3, rc3, rfl, h1, h2, h3⟩
      have hpB : p < w2.heap.size := by have := HG2.out; omega
      have hBr : w2.heap.size ≤ wr.heap.size := HE.out.kept.size
      have hsz3 : w2.heap.size ≤ w3.heap.size := Nat.le_trans hBr h3.size
      obtain ⟨v', w4, hr, r1, r2, r3⟩ := run_append_acts w3 37 w2.heap.size (.slice ro m rc) _ (HE.out.acts.keptP h3 hpB) ro3 _ rc3 _ (h1.base_le hBr) (by have := HE.out.len; omega) hsz3
      rw [← HD.out] at h2 r1
      obtain ⟨ro', m', rc', rfl, hPE⟩ := HE.out.fed hpB HP2.out.ps.tabs h2 h3 r1 r2 r3
      have hkept := hPE.kept
      have hacts := hPE.acts
      have hps := hPE.ps
      have hlen' := hPE.len
      rw [HN.out] at hacts hps hlen'
      rw [hRQ] at hlen'
      subst hlen'
      have HAC := Lib.hid hacts.inS.1
      have HQ4 := Lib.hid (HQ.out.keptP hkept (by omega)).inS.1
      have HPS := Lib.hid hps
      have HQS := Lib.hid (HP2.out.qs.kept hkept (by omega) hps.tabs)
      have HB4 := Lib.hid (HP2.out.bel.trans (hkept.below (B := w.heap.size) HP2.out.bel.size (fun k hk => by omega)))
      clear h1 h2 h3 hPE r1 r2 r3 HF HE hkept hacts hps HQ
      generalize (es.feed (es.feed {} (l.take A)).1 (l.drop A)).2.length = mm at *
      go_wp2_with (at_builtin; refine Lib.wpList_append_run _ rfl _ _ _ _ rfl _ _ rfl rfl _ _ hr ?_)
      have HS := Lib.hid (same_acts ro' rc' _ qo qc m' w4 HAC.out HQ4.out)
      refine HS.out.mono ?_
      rintro e w5 ⟨rfl, hb5⟩
      have HPS5 := Lib.hid (HPS.out.below hb5)
      have HQS5 := Lib.hid (HQS.out.below hb5)
      have HB5 := Lib.hid (HB4.out.trans (hb5.mono HB4.out.size))
      clear HAC HQ4 HPS HQS HB4 HS hb5
      go_wp2_with fail
      refine HPS5.out.idle.mono ?_
      rintro e w6 ⟨rfl, rfl⟩
      go_wp2_with fail
      refine HQS5.out.idle.mono ?_
      rintro e w7 ⟨rfl, rfl⟩
      go_wp2_with fail
      go_ret
      exact ⟨rfl, HB5.out⟩
end Go.Proofs.YtijfpfkmfibjjaaDoor
