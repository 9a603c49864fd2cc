/- The document's Decode. -/
import Derived.Test.YtibpbnffennmeaaMdRefDec2
namespace Go.Proofs.Ytibpbnffennmeaa
open Go.RowKit
theorem md.one255 (s : md.St) : (md.one 0 255 s).2 = (md.next (fun _ => true) s).2 := by
  show (md.next (fun c => md.fits 0 255 c.toNat) s).2 = _
  have e : (fun c : UInt8 => md.fits 0 255 c.toNat) = fun _ => true := funext fun c => by
    have := c.toNat_lt
    unfold md.fits
    exact decide_eq_true (by omega)
  rw [e]
theorem md.one255v (s : md.St) : ((md.next (fun _ => true) s).1).toNat = (md.one 0 255 s).1 := by
  show _ = (md.next (fun c => md.fits 0 255 c.toNat) s).1.toNat
  have e : (fun c : UInt8 => md.fits 0 255 c.toNat) = fun _ => true := funext fun c => by
    have := c.toNat_lt
    unfold md.fits
    exact decide_eq_true (by omega)
  rw [e]
abbrev sgO : Obj := .cells #[.int .i64 67, .int .i64 83, .int .i64 77, .int .i64 1] 3
set_option maxRecDepth 100000 in
set_option maxHeartbeats 6400000 in
theorem rdecode_any (D : Nat → Prop) (V : Value) (b : List UInt8) (w : World) (h : BsIn w D V b) :
    Calls Try.prog 6 #[V] w fun e w' => DecAns w w' b e := by
  obtain ⟨o, cap, rfl, hl1, hl2, -⟩ := id h
  have HIN0 := Lib.hid h
  unfold DecAns
  have hb1 := below_one w modZ
  have hn1 := heap_alloc_new w modZ
  have hs1 := World.size_alloc w modZ
  have hb2 := below_one (w.alloc modZ) fltZ
  have hn2 := heap_alloc_new (w.alloc modZ) fltZ
  have hs2 := World.size_alloc (w.alloc modZ) fltZ
  rw [hs1] at hn2
  have HBB : Hid (Below w.heap.size w ((w.alloc modZ).alloc fltZ)) := Lib.hid (hb1.trans (hb2.mono (by simp)))
  have HZ : Hid (((w.alloc modZ).alloc fltZ).heap[w.heap.size]? = some modZ ∧ ((w.alloc modZ).alloc fltZ).heap[w.heap.size + 1]? = some fltZ) := Lib.hid ⟨(hb2.block _ (by simp)).trans hn1, hn2⟩
  have hin := RowIn.below (RowIn.below h hb1) hb2
  have HIN := Lib.hid (show BsIn ((w.alloc modZ).alloc fltZ) (fun k => k < w.heap.size + 2) (.slice o b.length cap) b from by
    obtain ⟨o', cap', e, g1, g2, g3, g4⟩ := hin
    refine ⟨o', cap', e, g1, g2, g3, g4.imp id ?_⟩
    rintro ⟨bb, off, e1, -, hlt, hc⟩
    refine ⟨bb, off, e1, ?_, hlt, hc⟩
    rw [hs2, hs1] at hlt
    exact hlt)
  have HSZ : Hid (((w.alloc modZ).alloc fltZ).heap.size = w.heap.size + 2) := Lib.hid (by rw [hs2, hs1])
  clear hb1 hn1 hs1 hb2 hn2 hs2 hin h
  go_enter Try.func6, Try.ntmps6
  go_upto_region 1 with fail
  generalize (w.alloc modZ).alloc fltZ = w2 at *
  by_cases hlong : 4096 < b.length
  · have hli : (4096 : Int) < (b.length : Int) := by omega
    have HC : Hid (md.code b = 2 ∧ md.place b = 0 ∧ md.dec b = md.zero) := Lib.hid (by
      have e1 : md.code b = 2 := by unfold md.code; rw [if_pos hlong]
      refine ⟨e1, by unfold md.place; rw [if_pos hlong], ?_⟩
      unfold md.dec
      rw [e1]
      rfl)
    have hz := HZ.out.1
    have hm := HZ.out.2
    have d0 : w2.cell? ⟨w.heap.size, 0, none⟩ = some (.int .i64 0) := (cell_of_heap hz).trans rfl
    have d1 : w2.cell? ⟨w.heap.size, 1, none⟩ = some (.slice none 0 0) := (cell_of_heap hz).trans rfl
    have d2 : w2.cell? ⟨w.heap.size, 2, none⟩ = some (.slice none 0 0) := (cell_of_heap hz).trans rfl
    have e0 := thaw (k := 0) hz
    have e1 := thaw (k := 1) hz
    have e2 := thaw (k := 2) hz
    have d3 : w2.cell? ⟨w.heap.size + 1, 0, none⟩ = some (.int .i64 0) := (cell_of_heap hm).trans rfl
    have d4 : w2.cell? ⟨w.heap.size + 1, 1, none⟩ = some (.int .i64 0) := (cell_of_heap hm).trans rfl
    have e3 := thaw (k := 0) hm
    have e4 := thaw (k := 1) hm
    have hlt2 := heap_lt hm
    have HF := Lib.hid (fill_two (Nat.ne_of_lt (Nat.lt_succ_self w.heap.size)) hz hm HBB.out (Nat.le_refl _) (Nat.le_succ _) (.int .i64 0) (.slice none 0 0) (.slice none 0 0) 2 0)
    clear hz hm HZ HIN hl1 hlong
    generalize b.length = n at *
    go_wp2_with fail
    refine bodyPost_ret (results_two_cells rfl _ _ w.heap.size (w.heap.size + 1) 26 29 _ _ (0, 0) (0, 0) _ _ rfl HF.out.1 Try.underlying26 rfl (by kernel_rfl) rfl HF.out.2.1 Try.underlying29 rfl (by kernel_rfl)) rfl ?_
    rw [HC.out.1, HC.out.2.1, HC.out.2.2]
    exact ⟨_, _, rfl, ModO.zero _ _, HF.out.2.2⟩
  · have hli : ¬ (4096 : Int) < (b.length : Int) := by omega
    have hb3 := below_one w2 (stO o b.length cap 0 true)
    have hn3 := heap_alloc_new w2 (stO o b.length cap 0 true)
    have hb4 := below_one (w2.alloc (stO o b.length cap 0 true)) sgO
    have hn4 := heap_alloc_new (w2.alloc (stO o b.length cap 0 true)) sgO
    rw [World.size_alloc, HSZ.out] at hn4
    rw [HSZ.out] at hn3
    have hz3 := (hb3.block _ (heap_lt HZ.out.1)).trans HZ.out.1
    have hm3 := (hb3.block _ (heap_lt HZ.out.2)).trans HZ.out.2
    have HS0 : Hid (RS w ((w2.alloc (stO o b.length cap 0 true)).alloc sgO) w.heap.size o b.length cap 0 true ∧ ((w2.alloc (stO o b.length cap 0 true)).alloc sgO).heap[w.heap.size + 1 + 1 + 1]? = some sgO) := Lib.hid
      ⟨⟨(hb4.block _ (heap_lt hz3)).trans hz3, (hb4.block _ (heap_lt hm3)).trans hm3, (hb4.block _ (heap_lt hn3)).trans hn3, (HBB.out.trans (hb3.mono HBB.out.size)).trans (hb4.mono (HBB.out.trans (hb3.mono HBB.out.size)).size)⟩, hn4⟩
    have HCC := Lib.hid (show md.code b = (if md.flaw b = true then 120 else 0) by unfold md.code; rw [if_neg hlong])
    have HPP := Lib.hid (show md.place b = (if md.flaw b = true then b.length - (md.module_ ⟨b, false⟩).2.rest.length else 0) by unfold md.place; rw [if_neg hlong])
    have HFL : Hid (md.flaw b = ((md.module_ ⟨b, false⟩).2.bad || decide (0 < (md.module_ ⟨b, false⟩).2.rest.length))) := Lib.hid rfl
    have HDD : Hid (md.dec b = if md.code b = 0 then (md.module_ ⟨b, false⟩).1 else md.zero) := Lib.hid rfl
    have HMO := Lib.hid (md.module_sg ⟨b, false⟩)
    generalize md.module_ ⟨b, false⟩ = Y at *
    have hsz2 := HSZ.out
    clear hb3 hn3 hb4 hn4 hz3 hm3 HZ HBB HIN
    go_upto_region 6 with fail
    try rw [show w.heap.size + 3 = w.heap.size + 1 + 1 + 1 from rfl]
    try rw [show w.heap.size + 2 = w.heap.size + 1 + 1 from rfl]
    clear hsz2 HSZ
    generalize (w2.alloc (stO o b.length cap 0 true)).alloc sgO = W0 at *
    obtain ⟨p, hp⟩ : ∃ p, w.heap.size = p := ⟨_, rfl⟩
    have HP := Lib.hid hp
    have HS1 : Hid (RS w W0 p o b.length cap 0 true ∧ W0.heap[p + 1 + 1 + 1]? = some sgO) := Lib.hid (by rw [← hp]; exact HS0.out)
    rw [hp]
    clear hp HS0
    go_loopg [6] 4 (fun gg s6 wr => ∃ (k a' : Nat) (bd : Bool), s6 = .int .i64 k ∧ k ≤ 4 ∧ 4 - k ≤ gg ∧ a' ≤ b.length ∧ Hid (RS w wr p o b.length cap a' (!bd) ∧ wr.heap[p + 1 + 1 + 1]? = some sgO ∧ md.sgR (4 - k) ⟨b.drop a', bd⟩ = md.sgR 4 ⟨b, false⟩))
    case atStart => exact ⟨0, 0, false, rfl, by omega, by omega, by omega, Lib.hid ⟨HS1.out.1, HS1.out.2, rfl⟩⟩
    case round =>
      clear HS1
      obtain ⟨k, a', bd, rfl, hk, hgg, ha', HA⟩ := hrel
      by_cases hlt : k < 4
      case pos =>
        have hki : (k : Int) < 4 := by omega
        have HSG := Lib.hid (md.sg_step k hlt ⟨b.drop a', bd⟩)
        have hsk : wr.cell? ⟨p + 1 + 1 + 1, k, none⟩ = some (.int .i64 ((md.head[k]'hlt).toNat : Nat)) := (cell_of_heap HA.out.2.1).trans (by rcases (show k = 0 ∨ k = 1 ∨ k = 2 ∨ k = 3 by omega) with rfl | rfl | rfl | rfl <;> rfl)
        generalize (md.head[k]'hlt).toNat = sg at *
        have HV := Lib.hid (fun W h => rone_any D o cap b sg sg a' bd W h ha')
        have hinr := RowIn.below HIN0.out HA.out.1.bel
        have HINR := Lib.hid hinr
        have k0 : wr.cell? ⟨p + 1 + 1, 0, none⟩ = some (.slice o b.length cap) := (cell_of_heap HA.out.1.st).trans rfl
        have k1 : wr.cell? ⟨p + 1 + 1, 1, none⟩ = some (.int .i64 a') := (cell_of_heap HA.out.1.st).trans rfl
        have k2 : wr.cell? ⟨p + 1 + 1, 2, none⟩ = some (.bool (!bd)) := (cell_of_heap HA.out.1.st).trans rfl
        have hls := heap_lt HA.out.1.st
        have hlg := heap_lt HA.out.2.1
        clear hinr
        go_upto_region 8 with fail
        have hpw : w.heap.size ≤ p := by rw [HP.out]; exact Nat.le_refl _
        have HAV : ∀ V1 : World, Below wr.heap.size wr V1 → RS w V1 p o b.length cap a' (!bd) ∧ V1.heap[p + 1 + 1 + 1]? = some sgO := fun V1 hb => ⟨HA.out.1.below hb, (hb.block _ hlg).trans HA.out.2.1⟩
        have HAV := Lib.hid HAV
        clear hpw
        go_cut [8] from 34 to 46 (fun s8 wx => ∃ q a3 : Nat, s8 = .pointer (some ⟨q, 0, none⟩) ∧ a3 ≤ b.length ∧ Hid (wx.heap[q]? = some (stO o b.length cap a3 (!(md.one sg sg ⟨b.drop a', bd⟩).2.bad)) ∧ (md.one sg sg ⟨b.drop a', bd⟩).2.rest = b.drop a3 ∧ Below wr.heap.size wr wx ∧ wr.heap.size ≤ q))
        case first =>
          go_region_law (first
            | (go_simp; go_at_call 11; refine (HV.out wr.drew (RowIn.below HINR.out (below_drew (Below.refl _ _)))).mono ?_; rintro e V1 ⟨a3, rfl, ha3, hr3, hb3⟩; have hbA : Below wr.heap.size wr V1 := ⟨hb3.os, hb3.tape, hb3.output, hb3.size, hb3.block⟩; have HQ := Lib.hid (And.intro (heap_alloc_new V1 (stO o b.length cap a3 (!(md.one sg sg ⟨b.drop a', bd⟩).2.bad))) (And.intro hr3 (And.intro (hbA.trans ((below_one V1 (stO o b.length cap a3 (!(md.one sg sg ⟨b.drop a', bd⟩).2.bad))).mono hbA.size)) hbA.size))); clear hbA hb3)
            | (go_simp; go_at_call 11; refine (HV.out (wr.alloc stZ).drew (RowIn.below (RowIn.below HINR.out (below_one wr stZ)) (below_drew (Below.refl _ _)))).mono ?_; rintro e V1 ⟨a3, rfl, ha3, hr3, hb3⟩; have hq1 := (hb3.block wr.heap.size (by simp)).trans (heap_alloc_new wr stZ); have y0 : V1.cell? ⟨wr.heap.size, 0, none⟩ = some (.slice none 0 0) := (cell_of_heap hq1).trans rfl; have y1 : V1.cell? ⟨wr.heap.size, 1, none⟩ = some (.int .i64 0) := (cell_of_heap hq1).trans rfl; have y2 : V1.cell? ⟨wr.heap.size, 2, none⟩ = some (.bool false) := (cell_of_heap hq1).trans rfl; have z0 := thaw (k := 0) hq1; have z1 := thaw (k := 1) hq1; have z2 := thaw (k := 2) hq1; have hlq := heap_lt hq1; have hbB : Below wr.heap.size wr V1 := (below_one wr stZ).trans (Below.mono (⟨hb3.os, hb3.tape, hb3.output, hb3.size, hb3.block⟩ : Below (wr.alloc stZ).heap.size (wr.alloc stZ) V1) (by simp)); have HQ : Hid ((setMod V1 wr.heap.size (.slice o b.length cap) (.int .i64 a3) (.bool (!(md.one sg sg ⟨b.drop a', bd⟩).2.bad))).heap[wr.heap.size]? = some (stO o b.length cap a3 (!(md.one sg sg ⟨b.drop a', bd⟩).2.bad)) ∧ (md.one sg sg ⟨b.drop a', bd⟩).2.rest = b.drop a3 ∧ Below wr.heap.size wr (setMod V1 wr.heap.size (.slice o b.length cap) (.int .i64 a3) (.bool (!(md.one sg sg ⟨b.drop a', bd⟩).2.bad))) ∧ wr.heap.size ≤ wr.heap.size) := Lib.hid ⟨store3 hq1 _ _ _, hr3, ((hbB.setCell (Nat.le_refl _) _).setCell (Nat.le_refl _) _).setCell (Nat.le_refl _) _, Nat.le_refl _⟩; clear hbB hb3 hq1))
          all_goals
            go_wp2_with fail
            go_meet
            exact ⟨_, a3, rfl, ha3, HQ⟩
        case rest =>
          obtain ⟨q, a3, rfl, ha3, HQ⟩ := hcut
          have h4 := HA.out.2.2
          have hrs := HA.out.1
          have hg0 := HA.out.2.1
          have hsn := HSG.out
          obtain ⟨X, hX⟩ : ∃ X, md.one sg sg ⟨b.drop a', bd⟩ = X := ⟨_, rfl⟩
          have hst : (md.next (fun x => decide (x.toNat = sg)) ⟨b.drop a', bd⟩).2 = X.2 := by rw [← hX, md.one_sign]
          rw [hsn, hst] at h4
          rw [hX] at HQ
          obtain ⟨v, ⟨l3, bd3⟩⟩ := X
          dsimp only at HQ h4
          obtain rfl : l3 = b.drop a3 := HQ.out.2.1
          have HR3 := Lib.hid (hrs.below HQ.out.2.2.1)
          have HG3 := Lib.hid ((HQ.out.2.2.1.block _ hlg).trans hg0)
          have H4 := Lib.hid h4
          have HQ3 := Lib.hid HQ.out.1
          have hpw : w.heap.size ≤ p := by rw [HP.out]; exact Nat.le_refl _
          clear h4 hrs hg0 hsn hX hst HQ HA HSG HV HINR HAV k0 k1 k2 hsk hls hlg
          have c0 : wc.cell? ⟨q, 0, none⟩ = some (.slice o b.length cap) := (cell_of_heap HQ3.out).trans rfl
          have c1 : wc.cell? ⟨q, 1, none⟩ = some (.int .i64 a3) := (cell_of_heap HQ3.out).trans rfl
          have c2 : wc.cell? ⟨q, 2, none⟩ = some (.bool (!bd3)) := (cell_of_heap HQ3.out).trans rfl
          have hlc := heap_lt HQ3.out
          have k0 : wc.cell? ⟨p + 1 + 1, 0, none⟩ = some (.slice o b.length cap) := (cell_of_heap HR3.out.st).trans rfl
          have k1 : wc.cell? ⟨p + 1 + 1, 1, none⟩ = some (.int .i64 a') := (cell_of_heap HR3.out.st).trans rfl
          have k2 : wc.cell? ⟨p + 1 + 1, 2, none⟩ = some (.bool (!bd)) := (cell_of_heap HR3.out.st).trans rfl
          have f0 := thaw (k := 0) HR3.out.st
          have f1 := thaw (k := 1) HR3.out.st
          have f2 := thaw (k := 2) HR3.out.st
          have hlp := heap_lt HR3.out.st
          have HF5 := Lib.hid (And.intro (HR3.out.setSt (a' := a3) (ok' := !bd3) hpw) (And.intro ((setMod_far wc (p + 1 + 1) (.slice o b.length cap) (.int .i64 a3) (.bool (!bd3)) (p + 1 + 1 + 1) (by omega)).trans HG3.out) H4.out))
          clear hpw
          go_wp2_with fail
          go_roundg (4 - (k + 1))
          case measure => omega
          case rel => exact ⟨k + 1, a3, bd3, by go_num, by omega, Nat.le_refl _, ha3, HF5⟩
      case neg =>
        obtain rfl : k = 4 := by omega
        have hki : ¬ ((4 : Nat) : Int) < 4 := by decide
        have HY0 : Hid (Y = md.body1 (md.two 0 1024 ⟨b.drop a', bd⟩).1 (md.two 0 1024 ⟨b.drop a', bd⟩).2) := Lib.hid (by
          rw [HMO.out, ← HA.out.2.2]
          rfl)
        have HRS := Lib.hid HA.out.1
        clear HA HMO hki
        have k0 : wr.cell? ⟨p + 1 + 1, 0, none⟩ = some (.slice o b.length cap) := (cell_of_heap HRS.out.st).trans rfl
        have k1 : wr.cell? ⟨p + 1 + 1, 1, none⟩ = some (.int .i64 a') := (cell_of_heap HRS.out.st).trans rfl
        have k2 : wr.cell? ⟨p + 1 + 1, 2, none⟩ = some (.bool (!bd)) := (cell_of_heap HRS.out.st).trans rfl
        have hlp := heap_lt HRS.out.st
        have HPR := Lib.hid (rpair_any D o cap b 0 1024 a' bd wr (RowIn.below HIN0.out HRS.out.bel) ha' (by decide))
        have hle := md.two1024 ⟨b.drop a', bd⟩
        go_upto_region 10 with fail
        go_wp2_with fail
        refine HPR.out.mono ?_
        rintro e V5 ⟨a5, mem, rfl, hn1, hn2, ha5, hr5, hb5⟩
        obtain ⟨X, hX⟩ : ∃ X, md.two 0 1024 ⟨b.drop a', bd⟩ = X := ⟨_, rfl⟩
        have hy := HY0.out
        rw [hX] at hn1 hn2 hr5 hle hy ⊢
        obtain ⟨v5, ⟨l5, bd5⟩⟩ := X
        dsimp only at hn1 hn2 hr5 hle hy ⊢
        subst hr5
        have hmem : mem ≤ 1024 := by
          cases bd5 with
          | false => rw [hn1 rfl]; exact hle
          | true => rw [hn2 rfl]; decide
        have HY1 : Hid (md.Agree Y (md.body2 mem (md.two 0 mem ⟨b.drop a5, bd5⟩).1 (md.two 0 mem ⟨b.drop a5, bd5⟩).2)) := Lib.hid (by
          rw [hy]
          exact md.agree_step md.body1 md.Good.body1 v5 mem (b.drop a5) bd5 hn1)
        have hba := below_one V5 (stO o b.length cap a5 (!bd5))
        have RS5 := Lib.hid ((HRS.out.below hb5).below hba)
        have HQ5 := Lib.hid (heap_alloc_new V5 (stO o b.length cap a5 (!bd5)))
        clear hX hba k0 k1 k2 hlp hb5 HPR HRS hy hn1 hn2 hle HY0
        go_upto_region 11 with fail
        generalize V5.alloc (stO o b.length cap a5 (!bd5)) = W5 at *
        generalize V5.heap.size = q5 at *
        have c0 : W5.cell? ⟨q5, 0, none⟩ = some (.slice o b.length cap) := (cell_of_heap HQ5.out).trans rfl
        have c1 : W5.cell? ⟨q5, 1, none⟩ = some (.int .i64 a5) := (cell_of_heap HQ5.out).trans rfl
        have c2 : W5.cell? ⟨q5, 2, none⟩ = some (.bool (!bd5)) := (cell_of_heap HQ5.out).trans rfl
        have hlc := heap_lt HQ5.out
        have HPR := Lib.hid (rpair_any D o cap b 0 mem a5 bd5 W5 (RowIn.below HIN0.out RS5.out.bel) ha5 (by decide))
        have hle := md.two_mem mem hmem ⟨b.drop a5, bd5⟩
        go_wp2_with fail
        refine HPR.out.mono ?_
        rintro e V6 ⟨a6, nd, rfl, hn1, hn2, ha6, hr6, hb6⟩
        obtain ⟨X, hX⟩ : ∃ X, md.two 0 mem ⟨b.drop a5, bd5⟩ = X := ⟨_, rfl⟩
        have hy := HY1.out
        rw [hX] at hn1 hn2 hr6 hle hy ⊢
        obtain ⟨v6, ⟨l6, bd6⟩⟩ := X
        dsimp only at hn1 hn2 hr6 hle hy ⊢
        subst hr6
        have hnd : nd ≤ 1024 := by
          cases bd6 with
          | false => rw [hn1 rfl]; exact hle
          | true => rw [hn2 rfl]; decide
        have HY2 : Hid (md.Agree Y (md.body2 mem nd ⟨b.drop a6, bd6⟩)) := Lib.hid (hy.trans (md.agree_step (md.body2 mem) (md.Good.body2 mem) v6 nd (b.drop a6) bd6 hn1))
        have hba := below_one V6 (stO o b.length cap a6 (!bd6))
        have RS6 := Lib.hid ((RS5.out.below hb6).below hba)
        have HQ6 := Lib.hid (heap_alloc_new V6 (stO o b.length cap a6 (!bd6)))
        clear hX hba c0 c1 c2 hlc hb6 HPR RS5 HQ5 hy hn1 hn2 hle HY1
        go_upto_region 12 with fail
        generalize V6.alloc (stO o b.length cap a6 (!bd6)) = W6 at *
        generalize V6.heap.size = q6 at *
        have hpw : w.heap.size ≤ p := by rw [HP.out]; exact Nat.le_refl _
        have HPW := Lib.hid hpw
        have c0 : W6.cell? ⟨q6, 0, none⟩ = some (.slice o b.length cap) := (cell_of_heap HQ6.out).trans rfl
        have c1 : W6.cell? ⟨q6, 1, none⟩ = some (.int .i64 a6) := (cell_of_heap HQ6.out).trans rfl
        have c2 : W6.cell? ⟨q6, 2, none⟩ = some (.bool (!bd6)) := (cell_of_heap HQ6.out).trans rfl
        have hlc := heap_lt HQ6.out
        have k0 : W6.cell? ⟨p + 1 + 1, 0, none⟩ = some (.slice o b.length cap) := (cell_of_heap RS6.out.st).trans rfl
        have k1 : W6.cell? ⟨p + 1 + 1, 1, none⟩ = some (.int .i64 a') := (cell_of_heap RS6.out.st).trans rfl
        have k2 : W6.cell? ⟨p + 1 + 1, 2, none⟩ = some (.bool (!bd)) := (cell_of_heap RS6.out.st).trans rfl
        have f0 := thaw (k := 0) RS6.out.st
        have f1 := thaw (k := 1) RS6.out.st
        have f2 := thaw (k := 2) RS6.out.st
        have hlp := heap_lt RS6.out.st
        have RS7 : Hid (RS w (((W6.setCell ⟨p + 1 + 1, 0, none⟩ (.slice o b.length cap)).setCell ⟨p + 1 + 1, 1, none⟩ (.int .i64 a6)).setCell ⟨p + 1 + 1, 2, none⟩ (.bool (!bd6))) p o b.length cap a6 (!bd6)) := Lib.hid (RS6.out.setSt (a' := a6) (ok' := !bd6) hpw)
        clear hpw
        go_upto_region 13 with fail
        clear c0 c1 c2 hlc k0 k1 k2 f0 f1 f2 hlp RS6 HQ6
        generalize ((W6.setCell ⟨p + 1 + 1, 0, none⟩ (.slice o b.length cap)).setCell ⟨p + 1 + 1, 1, none⟩ (.int .i64 a6)).setCell ⟨p + 1 + 1, 2, none⟩ (.bool (!bd6)) = W7 at *
        have hba := below_one W7 (.cells #[.int .i64 mem, .slice none 0 0, .slice none 0 0] 26)
        have RM8 : Hid (RM w (W7.alloc (.cells #[.int .i64 mem, .slice none 0 0, .slice none 0 0] 26)) p o b.length cap a6 (!bd6) W7.heap.size mem (.slice none 0 0) (.slice none 0 0) [] []) := Lib.hid ⟨RS7.out.below hba, heap_alloc_new W7 _, ⟨World.ownsRow_nil _ _ _ _, [], World.ownsRow_nil _ _ _ _, rfl⟩⟩
        have hq8 : p + 1 + 1 < W7.heap.size := heap_lt RS7.out.st
        clear hba RS7
        go_upto_region 15 with fail
        generalize W7.alloc (.cells #[.int .i64 mem, .slice none 0 0, .slice none 0 0] 26) = W8 at *
        generalize W7.heap.size = q8 at *
        generalize wr = wo at *
        go_loopg [14] nd (fun gg s14 wr => ∃ (k a' : Nat) (bd : Bool) (VD : Value) (d : List UInt8), s14 = .int .i64 k ∧ k ≤ nd ∧ nd - k ≤ gg ∧ a' ≤ b.length ∧ d.length = k ∧ Hid (RM w wr p o b.length cap a' (!bd) q8 mem VD (.slice none 0 0) d [] ∧ (md.data k ⟨b.drop a6, bd6⟩).2 = ⟨b.drop a', bd⟩ ∧ (bd = false → d = (md.data k ⟨b.drop a6, bd6⟩).1)))
        case atStart => exact ⟨0, a6, bd6, .slice none 0 0, [], rfl, Nat.zero_le _, by omega, ha6, rfl, Lib.hid ⟨RM8.out, rfl, fun _ => rfl⟩⟩
        case round =>
          clear RM8
          obtain ⟨k, a', bd, VD, d, rfl, hk, hgg, ha', hdk, HA⟩ := hrel
          have HDK := Lib.hid hdk
          clear hdk
          have HRM := Lib.hid HA.out.1
          obtain ⟨aoD, cD, rfl⟩ := own_slice HRM.out.own.data
          dsimp only at HRM HA
          have s0 : wr.cell? ⟨p + 1 + 1, 0, none⟩ = some (.slice o b.length cap) := (cell_of_heap HRM.out.rs.st).trans rfl
          have s1 : wr.cell? ⟨p + 1 + 1, 1, none⟩ = some (.int .i64 a') := (cell_of_heap HRM.out.rs.st).trans rfl
          have hls := heap_lt HRM.out.rs.st
          by_cases hrun : k < nd ∧ bd = false
          case pos =>
            obtain ⟨hlt, rfl⟩ := hrun
            have hlti : (k : Int) < (nd : Int) := by omega
            have HSN : Hid ((md.data (k + 1) ⟨b.drop a6, bd6⟩).2 = (md.one 0 255 ⟨b.drop a', false⟩).2 ∧ (md.data (k + 1) ⟨b.drop a6, bd6⟩).1 = d ++ [(md.next (fun _ => true) ⟨b.drop a', false⟩).1]) := Lib.hid (by
              have e := md.many_snoc (md.next fun _ => true) k ⟨b.drop a6, bd6⟩
              have h2 : (md.many (md.next fun _ => true) k ⟨b.drop a6, bd6⟩).2 = ⟨b.drop a', false⟩ := HA.out.2.1
              have h3 : d = (md.many (md.next fun _ => true) k ⟨b.drop a6, bd6⟩).1 := HA.out.2.2 rfl
              rw [h2, ← h3] at e
              refine ⟨?_, ?_⟩
              · show (md.many _ _ _).2 = _
                rw [e, md.one255]
              · show (md.many _ _ _).1 = _
                rw [e])
            have HC5 := Lib.hid (rone_any D o cap b 0 255 a' false wr (RowIn.below HIN0.out HRM.out.rs.bel) ha')
            have hv1 := md.one255v ⟨b.drop a', false⟩
            have s2 : wr.cell? ⟨p + 1 + 1, 2, none⟩ = some (.bool true) := (cell_of_heap HRM.out.rs.st).trans rfl
            go_upto_region 17 with fail
            go_wp2_with fail
            refine HC5.out.mono ?_
            rintro e V5 ⟨a5, rfl, ha5, hr5, hb5⟩
            have hsn := HSN.out
            obtain ⟨X, hX⟩ : ∃ X, md.one 0 255 ⟨b.drop a', false⟩ = X := ⟨_, rfl⟩
            rw [hX] at hr5 hsn hv1 ⊢
            obtain ⟨c, ⟨l5, bd5⟩⟩ := X
            dsimp only at hr5 hsn hv1 ⊢
            subst hr5
            have hba := below_one V5 (stO o b.length cap a5 (!bd5))
            have RM5 := Lib.hid ((HRM.out.below hb5).below hba)
            have HQ5 := Lib.hid (heap_alloc_new V5 (stO o b.length cap a5 (!bd5)))
            have HS5 : Hid ((md.data (k + 1) ⟨b.drop a6, bd6⟩).2 = ⟨b.drop a5, bd5⟩ ∧ (md.data (k + 1) ⟨b.drop a6, bd6⟩).1 = d ++ [UInt8.ofNat c]) := Lib.hid ⟨hsn.1, by rw [hsn.2, ← hv1]; simp⟩
            have hc : c < 256 := by rw [← hv1]; exact UInt8.toNat_lt _
            have hci : (c : Int) ≤ 255 := by omega
            clear hX hba s0 s1 s2 hls hb5 HC5 HRM HA hsn HSN hv1
            go_upto_region 18 with fail
            generalize V5.alloc (stO o b.length cap a5 (!bd5)) = W5 at *
            generalize V5.heap.size = q5 at *
            have c0 : W5.cell? ⟨q5, 0, none⟩ = some (.slice o b.length cap) := (cell_of_heap HQ5.out).trans rfl
            have c1 : W5.cell? ⟨q5, 1, none⟩ = some (.int .i64 a5) := (cell_of_heap HQ5.out).trans rfl
            have c2 : W5.cell? ⟨q5, 2, none⟩ = some (.bool (!bd5)) := (cell_of_heap HQ5.out).trans rfl
            have hlc := heap_lt HQ5.out
            have k0 : W5.cell? ⟨p + 1 + 1, 0, none⟩ = some (.slice o b.length cap) := (cell_of_heap RM5.out.rs.st).trans rfl
            have k1 : W5.cell? ⟨p + 1 + 1, 1, none⟩ = some (.int .i64 a') := (cell_of_heap RM5.out.rs.st).trans rfl
            have k2 : W5.cell? ⟨p + 1 + 1, 2, none⟩ = some (.bool true) := (cell_of_heap RM5.out.rs.st).trans rfl
            have f0 := thaw (k := 0) RM5.out.rs.st
            have f1 := thaw (k := 1) RM5.out.rs.st
            have f2 := thaw (k := 2) RM5.out.rs.st
            have hlp := heap_lt RM5.out.rs.st
            have RM7 : Hid (RM w (((W5.setCell ⟨p + 1 + 1, 0, none⟩ (.slice o b.length cap)).setCell ⟨p + 1 + 1, 1, none⟩ (.int .i64 a5)).setCell ⟨p + 1 + 1, 2, none⟩ (.bool (!bd5))) p o b.length cap a5 (!bd5) q8 mem (.slice aoD d.length cD) (.slice none 0 0) d []) := Lib.hid (RM5.out.setSt (a' := a5) (ok' := !bd5) HPW.out hq8)
            go_upto_region 19 with fail
            clear c0 c1 c2 hlc k0 k1 k2 f0 f1 f2 hlp RM5 HQ5
            generalize ((W5.setCell ⟨p + 1 + 1, 0, none⟩ (.slice o b.length cap)).setCell ⟨p + 1 + 1, 1, none⟩ (.int .i64 a5)).setCell ⟨p + 1 + 1, 2, none⟩ (.bool (!bd5)) = W9 at *
            have n1 : W9.cell? ⟨q8, 1, none⟩ = some (.slice aoD d.length cD) := (cell_of_heap RM7.out.nd).trans rfl
            have m1 := thaw (k := 1) RM7.out.nd
            have hln := heap_lt RM7.out.nd
            have hBw : w.heap.size ≤ W9.heap.size := RM7.out.rs.bel.size
            have HC9 : Hid (#[Value.int .u8 (c : Int)] = (byC [UInt8.ofNat c]).toArray) := Lib.hid (by
              unfold byC
              simp only [List.map_cons, List.map_nil, md.u8_toNat hc])
            go_wp2_with (at_builtin; go_loud (refine wpList_lit W9 _ rfl _ _ rfl w.heap.size (.slice aoD d.length cD) d rfl RM7.out.own.data W9.heap.size rfl 1 [UInt8.ofNat c] rfl HC9.out rfl (by rw [List.length_singleton, HDK.out]; omega) hBw ?_))
            intro VD' w9 r1 r2
            have hn9 := r2.keep _ _ RM7.out.nd (fun cur e => by injection e with _ e2; exact absurd e2 (by decide))
            obtain ⟨ao9, ac9, rfl⟩ := own_slice r1
            rw [show (d ++ [UInt8.ofNat c]).length = d.length + 1 by rw [List.length_append, List.length_singleton]] at r1
            have n9 : w9.cell? ⟨q8, 1, none⟩ = some (.slice aoD d.length cD) := (cell_of_heap hn9).trans rfl
            have f9 := thaw (k := 1) hn9
            have hl9 := heap_lt hn9
            have H9 := Lib.hid (RM7.out.byte HPW.out hq8 (UInt8.ofNat c) r1 r2)
            clear r1 r2 hn9 RM7 n1 m1 hln HC9
            go_wp2_with fail
            go_roundg (nd - (k + 1))
            case measure => omega
            case rel => exact ⟨k + 1, a5, bd5, _, d ++ [UInt8.ofNat c], by go_num, by omega, Nat.le_refl _, ha5, by rw [List.length_append, List.length_singleton, HDK.out], Lib.hid ⟨H9.out, HS5.out.1, fun _ => HS5.out.2.symm⟩⟩
          case neg =>
            have HY3 : Hid (md.Agree Y (md.body3 mem d ⟨b.drop a', bd⟩)) := Lib.hid (by
              obtain ⟨g1, g2⟩ := md.loop_end (md.Good.next _) hk HA.out.2.1 (fun h => by have : ¬ k < nd := fun x => hrun ⟨x, h⟩; omega) HA.out.2.2
              refine HY2.out.trans ?_
              show md.Agree (md.body3 mem (md.many (md.next fun _ => true) nd ⟨b.drop a6, bd6⟩).1 (md.many (md.next fun _ => true) nd ⟨b.drop a6, bd6⟩).2) _
              rw [g1]
              exact md.agree_step (md.body3 mem) (md.Good.body3 mem) _ d _ bd g2)
            have hd2 : d.length ≤ 1024 := by rw [HDK.out]; omega
            obtain ⟨sx, hsx⟩ : ∃ sx : md.St, sx = ⟨b.drop a', bd⟩ := ⟨_, rfl⟩
            have HC5 : Hid (Calls Try.prog 11 #[stV o b.length cap a' (!bd), .int .i64 ((1 : Nat) : Int), .int .i64 ((16 : Nat) : Int)] wr fun e w' => StAns o cap b wr w' e (.int .i64 ((md.one 1 16 sx).1 : Nat)) (md.one 1 16 sx).2) := Lib.hid (by
              rw [hsx]
              exact rone_any D o cap b 1 16 a' bd wr (RowIn.below HIN0.out HRM.out.rs.bel) ha')
            have hk16 := md.one_le 1 16 sx
            rw [← hsx] at HY3
            clear hsx
            have s2 : wr.cell? ⟨p + 1 + 1, 2, none⟩ = some (.bool (!bd)) := (cell_of_heap HRM.out.rs.st).trans rfl
            have hex : ¬ (k : Int) < (nd : Int) ∨ ((k : Int) < (nd : Int) ∧ bd = true) := by
              by_cases hlt : k < nd
              · refine .inr ⟨by omega, ?_⟩
                cases bd with
                | true => rfl
                | false => exact absurd ⟨hlt, rfl⟩ hrun
              · exact .inl (by omega)
            have HEX := Lib.hid hex
            clear hex hrun HA HY2 hgg hk
            rcases HEX.out with hlti | ⟨hlti, hbt⟩
            rotate_left
            subst hbt
            all_goals
              clear HEX
              go_upto_region 20 with fail
              go_wp2_with fail
              refine HC5.out.mono ?_
              rintro e V5 ⟨a5, rfl, ha5, hr5, hb5⟩
              have hy : md.Agree Y ((⟨mem, d, (md.many md.fn (md.one 1 16 sx).1 (md.one 1 16 sx).2).1⟩ : md.Mod), (md.many md.fn (md.one 1 16 sx).1 (md.one 1 16 sx).2).2) := HY3.out
              obtain ⟨X, hX⟩ : ∃ X, md.one 1 16 sx = X := ⟨_, rfl⟩
              rw [hX] at hr5 hy hk16 ⊢
              obtain ⟨n, ⟨l5, bd5⟩⟩ := X
              dsimp only at hr5 hy hk16 ⊢
              subst hr5
              have HY4 := Lib.hid hy
              have hba := below_one V5 (stO o b.length cap a5 (!bd5))
              have RM5 := Lib.hid ((HRM.out.below hb5).below hba)
              have HQ5 := Lib.hid (heap_alloc_new V5 (stO o b.length cap a5 (!bd5)))
              clear hX hba s0 s1 s2 hls hb5 HC5 HRM hy HY3
              go_upto_region 21 with fail
              generalize V5.alloc (stO o b.length cap a5 (!bd5)) = W5 at *
              generalize V5.heap.size = q5 at *
              have c0 : W5.cell? ⟨q5, 0, none⟩ = some (.slice o b.length cap) := (cell_of_heap HQ5.out).trans rfl
              have c1 : W5.cell? ⟨q5, 1, none⟩ = some (.int .i64 a5) := (cell_of_heap HQ5.out).trans rfl
              have c2 : W5.cell? ⟨q5, 2, none⟩ = some (.bool (!bd5)) := (cell_of_heap HQ5.out).trans rfl
              have hlc := heap_lt HQ5.out
              have k0 : W5.cell? ⟨p + 1 + 1, 0, none⟩ = some (.slice o b.length cap) := (cell_of_heap RM5.out.rs.st).trans rfl
              have k1 : W5.cell? ⟨p + 1 + 1, 1, none⟩ = some (.int .i64 a') := (cell_of_heap RM5.out.rs.st).trans rfl
              have k2 := (cell_of_heap (k := 2) RM5.out.rs.st).trans rfl
              have f0 := thaw (k := 0) RM5.out.rs.st
              have f1 := thaw (k := 1) RM5.out.rs.st
              have f2 := thaw (k := 2) RM5.out.rs.st
              have hlp := heap_lt RM5.out.rs.st
              have RM7 : Hid (RM w (((W5.setCell ⟨p + 1 + 1, 0, none⟩ (.slice o b.length cap)).setCell ⟨p + 1 + 1, 1, none⟩ (.int .i64 a5)).setCell ⟨p + 1 + 1, 2, none⟩ (.bool (!bd5))) p o b.length cap a5 (!bd5) q8 mem (.slice aoD d.length cD) (.slice none 0 0) d []) := Lib.hid (RM5.out.setSt (a' := a5) (ok' := !bd5) HPW.out hq8)
              go_upto_region 23 with fail
              clear c0 c1 c2 hlc k0 k1 k2 f0 f1 f2 hlp RM5 HQ5
              generalize ((W5.setCell ⟨p + 1 + 1, 0, none⟩ (.slice o b.length cap)).setCell ⟨p + 1 + 1, 1, none⟩ (.int .i64 a5)).setCell ⟨p + 1 + 1, 2, none⟩ (.bool (!bd5)) = W9 at *
              generalize wr = wo at *
              go_loopg [19] n (fun gg s19 wr => ∃ (k a' : Nat) (bd : Bool) (VF : Value) (fs : List md.Fn), s19 = .int .i64 k ∧ k ≤ n ∧ n - k ≤ gg ∧ a' ≤ b.length ∧ fs.length = k ∧ Hid (RM w wr p o b.length cap a' (!bd) q8 mem (.slice aoD d.length cD) VF d fs ∧ (md.many md.fn k ⟨b.drop a5, bd5⟩).2 = ⟨b.drop a', bd⟩ ∧ (bd = false → fs = (md.many md.fn k ⟨b.drop a5, bd5⟩).1)))
              case atStart => exact ⟨0, a5, bd5, .slice none 0 0, [], rfl, Nat.zero_le _, by omega, ha5, rfl, Lib.hid ⟨RM7.out, rfl, fun _ => rfl⟩⟩
              case round =>
                clear RM7
                obtain ⟨k, a', bd, VF, fs, rfl, hk, hgg, ha', hdk, HA⟩ := hrel
                have HFK := Lib.hid hdk
                clear hdk
                have HRM := Lib.hid HA.out.1
                obtain ⟨aoF, cF, rfl⟩ : ∃ ao ac, VF = .slice ao fs.length ac := by
                  obtain ⟨cs, hr, -⟩ := HRM.out.own.fns
                  exact own_slice hr
                have s0 : wr.cell? ⟨p + 1 + 1, 0, none⟩ = some (.slice o b.length cap) := (cell_of_heap HRM.out.rs.st).trans rfl
                have s1 : wr.cell? ⟨p + 1 + 1, 1, none⟩ = some (.int .i64 a') := (cell_of_heap HRM.out.rs.st).trans rfl
                have hls := heap_lt HRM.out.rs.st
                by_cases hrun : k < n ∧ bd = false
                case pos =>
                  obtain ⟨hlt, rfl⟩ := hrun
                  have hlti : (k : Int) < (n : Int) := by omega
                  have s2 : wr.cell? ⟨p + 1 + 1, 2, none⟩ = some (.bool true) := (cell_of_heap HRM.out.rs.st).trans rfl
                  have HSN : Hid ((md.many md.fn (k + 1) ⟨b.drop a5, bd5⟩).2 = (md.fn ⟨b.drop a', false⟩).2 ∧ (md.many md.fn (k + 1) ⟨b.drop a5, bd5⟩).1 = fs ++ [(md.fn ⟨b.drop a', false⟩).1]) := Lib.hid (by
                    rw [md.many_snoc, HA.out.2.1, ← HA.out.2.2 rfl]
                    exact ⟨rfl, rfl⟩)
                  have HC6 := Lib.hid (rfn_any D o cap b a' false wr (RowIn.below HIN0.out HRM.out.rs.bel) ha')
                  go_upto_region 25 with fail
                  go_wp2_with fail
                  refine HC6.out.mono ?_
                  rintro e V6 ⟨a6, f, VC, rfl, hf6, hc6, ha6, hr6, hb6⟩
                  have hsn := HSN.out
                  obtain ⟨X, hX⟩ : ∃ X, md.fn ⟨b.drop a', false⟩ = X := ⟨_, rfl⟩
                  rw [hX] at hf6 hr6 hsn ⊢
                  obtain ⟨f6, ⟨l6, bdx⟩⟩ := X
                  dsimp only at hf6 hr6 hsn ⊢
                  subst hr6
                  obtain ⟨pa, re, lo, code⟩ := f
                  obtain ⟨aoC, cC, rfl⟩ := own_slice hc6
                  have h2n := two_new V6 (.cells #[.int .i64 pa, .int .i64 re, .int .i64 lo, .slice aoC code.length cC] 40) (stO o b.length cap a6 (!bdx))
                  have HS6 : Hid ((md.many md.fn (k + 1) ⟨b.drop a5, bd5⟩).2 = ⟨b.drop a6, bdx⟩ ∧ (bdx = false → fs ++ [⟨pa, re, lo, code⟩] = (md.many md.fn (k + 1) ⟨b.drop a5, bd5⟩).1)) := Lib.hid ⟨hsn.1, fun h => by rw [hsn.2, hf6 h]⟩
                  have RM6 := Lib.hid ((HRM.out.below hb6).below h2n.2.2)
                  have HFB := Lib.hid h2n.1
                  have HQ6 := Lib.hid h2n.2.1
                  have HC6B := Lib.hid (row_below (own_base hc6 HRM.out.rs.bel.size) h2n.2.2)
                  have hv6 : p + 1 + 1 < V6.heap.size := heap_lt ((HRM.out.below hb6).rs.st)
                  clear hX h2n s0 s1 s2 hls hb6 HC6 HRM HA hsn HSN hf6 hc6
                  go_upto_region 26 with fail
                  generalize (V6.alloc (.cells #[.int .i64 pa, .int .i64 re, .int .i64 lo, .slice aoC code.length cC] 40)).alloc (stO o b.length cap a6 (!bdx)) = W6 at *
                  generalize V6.heap.size = q6 at *
                  have c0 : W6.cell? ⟨q6 + 1, 0, none⟩ = some (.slice o b.length cap) := (cell_of_heap HQ6.out).trans rfl
                  have c1 : W6.cell? ⟨q6 + 1, 1, none⟩ = some (.int .i64 a6) := (cell_of_heap HQ6.out).trans rfl
                  have c2 : W6.cell? ⟨q6 + 1, 2, none⟩ = some (.bool (!bdx)) := (cell_of_heap HQ6.out).trans rfl
                  have hlc := heap_lt HQ6.out
                  have k0 : W6.cell? ⟨p + 1 + 1, 0, none⟩ = some (.slice o b.length cap) := (cell_of_heap RM6.out.rs.st).trans rfl
                  have k1 : W6.cell? ⟨p + 1 + 1, 1, none⟩ = some (.int .i64 a') := (cell_of_heap RM6.out.rs.st).trans rfl
                  have k2 : W6.cell? ⟨p + 1 + 1, 2, none⟩ = some (.bool true) := (cell_of_heap RM6.out.rs.st).trans rfl
                  have f0 := thaw (k := 0) RM6.out.rs.st
                  have f1 := thaw (k := 1) RM6.out.rs.st
                  have f2 := thaw (k := 2) RM6.out.rs.st
                  have hlp := heap_lt RM6.out.rs.st
                  have RM7 : Hid (RM w (((W6.setCell ⟨p + 1 + 1, 0, none⟩ (.slice o b.length cap)).setCell ⟨p + 1 + 1, 1, none⟩ (.int .i64 a6)).setCell ⟨p + 1 + 1, 2, none⟩ (.bool (!bdx))) p o b.length cap a6 (!bdx) q8 mem (.slice aoD d.length cD) (.slice aoF fs.length cF) d fs) := Lib.hid (RM6.out.setSt (a' := a6) (ok' := !bdx) HPW.out hq8)
                  have HFB7 : Hid ((((W6.setCell ⟨p + 1 + 1, 0, none⟩ (.slice o b.length cap)).setCell ⟨p + 1 + 1, 1, none⟩ (.int .i64 a6)).setCell ⟨p + 1 + 1, 2, none⟩ (.bool (!bdx))).heap[q6]? = some (.cells #[.int .i64 pa, .int .i64 re, .int .i64 lo, .slice aoC code.length cC] 40 (0, 0))) := Lib.hid ((setMod_far W6 (p + 1 + 1) _ _ _ q6 (by omega)).trans HFB.out)
                  have HC7 : Hid ((((W6.setCell ⟨p + 1 + 1, 0, none⟩ (.slice o b.length cap)).setCell ⟨p + 1 + 1, 1, none⟩ (.int .i64 a6)).setCell ⟨p + 1 + 1, 2, none⟩ (.bool (!bdx))).ownsRow w.heap.size 37 2 (.slice aoC code.length cC) code.length (codeC code)) := Lib.hid (code_setMod RM6.out.rs.st HC6B.out)
                  go_upto_region 27 with fail
                  clear c0 c1 c2 hlc k0 k1 k2 f0 f1 f2 hlp RM6 HQ6 HFB HC6B
                  generalize ((W6.setCell ⟨p + 1 + 1, 0, none⟩ (.slice o b.length cap)).setCell ⟨p + 1 + 1, 1, none⟩ (.int .i64 a6)).setCell ⟨p + 1 + 1, 2, none⟩ (.bool (!bdx)) = W8 at *
                  have n2 : W8.cell? ⟨q8, 2, none⟩ = some (.slice aoF fs.length cF) := (cell_of_heap RM7.out.nd).trans rfl
                  have m2 := thaw (k := 2) RM7.out.nd
                  have hln := heap_lt RM7.out.nd
                  have x0 : W8.cell? ⟨q6, 0, none⟩ = some (.int .i64 pa) := (cell_of_heap HFB7.out).trans rfl
                  have x1 : W8.cell? ⟨q6, 1, none⟩ = some (.int .i64 re) := (cell_of_heap HFB7.out).trans rfl
                  have x2 : W8.cell? ⟨q6, 2, none⟩ = some (.int .i64 lo) := (cell_of_heap HFB7.out).trans rfl
                  have x3 : W8.cell? ⟨q6, 3, none⟩ = some (.slice aoC code.length cC) := (cell_of_heap HFB7.out).trans rfl
                  have hlx := heap_lt HFB7.out
                  have hbl := below_one W8 (.cells #[.int .i64 pa, .int .i64 re, .int .i64 lo, .slice aoC code.length cC] 40)
                  have HRL := Lib.hid (RM7.out.below hbl)
                  have HNL := Lib.hid (heap_alloc_new W8 (.cells #[.int .i64 pa, .int .i64 re, .int .i64 lo, .slice aoC code.length cC] 40))
                  have HCL := Lib.hid (row_below HC7.out hbl)
                  obtain ⟨cs, hrf, hff⟩ := HRL.out.own.fns
                  have HRF := Lib.hid hrf
                  have HFF := Lib.hid hff
                  dsimp only at HRF HFF
                  clear hbl hrf hff
                  go_wp2_with (at_builtin; go_loud (refine wpList_row 24 40 4 48 _ Try.underlying24 infoFn rfl (by decide) (by decide) rfl _ _ rfl w.heap.size (.slice aoF fs.length cF) fs.length cs rfl HRF.out W8.heap.size [.int .i64 pa, .int .i64 re, .int .i64 lo, .slice aoC code.length cC] rfl HNL.out rfl (by intro u hu; simp at hu; rcases hu with rfl | rfl | rfl | rfl <;> rfl) (by have := HFK.out; omega) HRL.out.rs.bel.size ?_))
                  intro VF' w9 r1 r2
                  have hn9 := HRL.out.ndg r2
                  obtain ⟨ao9, ac9, rfl⟩ := own_slice r1
                  have n9 : w9.cell? ⟨q8, 2, none⟩ = some (.slice aoF fs.length cF) := (cell_of_heap hn9).trans rfl
                  have f9 := thaw (k := 2) hn9
                  have hl9 := heap_lt hn9
                  have H9 := Lib.hid (HRL.out.fn HPW.out hq8 ⟨pa, re, lo, code⟩ HRF.out HFF.out HCL.out r1 r2)
                  clear r1 r2 hn9 HRL HNL HCL HRF HFF x0 x1 x2 x3 hlx n2 m2 hln RM7 HFB7 HC7
                  go_wp2_with fail
                  go_roundg (n - (k + 1))
                  case measure => omega
                  case rel => exact ⟨k + 1, a6, bdx, _, fs ++ [⟨pa, re, lo, code⟩], by go_num, by omega, Nat.le_refl _, ha6, by rw [List.length_append, List.length_singleton, HFK.out], Lib.hid ⟨H9.out, HS6.out.1, HS6.out.2⟩⟩
                case neg =>
                  have HE := Lib.hid (by
                    obtain ⟨g1, g2⟩ := md.loop_end md.Good.fn hk HA.out.2.1 (fun h => by have : ¬ k < n := fun x => hrun ⟨x, h⟩; omega) HA.out.2.2
                    have hy := HY4.out
                    rw [g1] at hy
                    have hy2 : md.Agree Y ((⟨mem, d, fs⟩ : md.Mod), ⟨b.drop a', bd⟩) := ⟨hy.1, fun h => (hy.2 h).trans (by rw [g2 h])⟩
                    exact md.agree_end hy2 ha' HCC.out HPP.out HFL.out HDD.out)
                  have s2 : wr.cell? ⟨p + 1 + 1, 2, none⟩ = some (.bool (!bd)) := (cell_of_heap HRM.out.rs.st).trans rfl
                  have n0 : wr.cell? ⟨q8, 0, none⟩ = some (.int .i64 mem) := (cell_of_heap HRM.out.nd).trans rfl
                  have n1 : wr.cell? ⟨q8, 1, none⟩ = some (.slice aoD d.length cD) := (cell_of_heap HRM.out.nd).trans rfl
                  have n2 : wr.cell? ⟨q8, 2, none⟩ = some (.slice aoF fs.length cF) := (cell_of_heap HRM.out.nd).trans rfl
                  have hln := heap_lt HRM.out.nd
                  have d0 : wr.cell? ⟨p, 0, none⟩ = some (.int .i64 0) := (cell_of_heap HRM.out.rs.z).trans rfl
                  have d1 : wr.cell? ⟨p, 1, none⟩ = some (.slice none 0 0) := (cell_of_heap HRM.out.rs.z).trans rfl
                  have d2 : wr.cell? ⟨p, 2, none⟩ = some (.slice none 0 0) := (cell_of_heap HRM.out.rs.z).trans rfl
                  have e0 := thaw (k := 0) HRM.out.rs.z
                  have e1 := thaw (k := 1) HRM.out.rs.z
                  have e2 := thaw (k := 2) HRM.out.rs.z
                  have d3 : wr.cell? ⟨p + 1, 0, none⟩ = some (.int .i64 0) := (cell_of_heap HRM.out.rs.y).trans rfl
                  have d4 : wr.cell? ⟨p + 1, 1, none⟩ = some (.int .i64 0) := (cell_of_heap HRM.out.rs.y).trans rfl
                  have e3 := thaw (k := 0) HRM.out.rs.y
                  have e4 := thaw (k := 1) HRM.out.rs.y
                  have hly := heap_lt HRM.out.rs.y
                  have HF1 := Lib.hid (fill_twoD (Nat.ne_of_lt (Nat.lt_succ_self p)) HRM.out.rs.z HRM.out.rs.y HRM.out.rs.bel HPW.out (Nat.le_succ_of_le HPW.out) (.int .i64 0) (.slice none 0 0) (.slice none 0 0) 120 a')
                  have HF2 := Lib.hid (fill_two (Nat.ne_of_lt (Nat.lt_succ_self p)) HRM.out.rs.z HRM.out.rs.y HRM.out.rs.bel HPW.out (Nat.le_succ_of_le HPW.out) (.int .i64 mem) (.slice aoD d.length cD) (.slice aoF fs.length cF) 0 0)
                  have HO2 := Lib.hid (ModO.filled (a0 := .int .i64 mem) (a1 := .slice aoD d.length cD) (a2 := .slice aoF fs.length cF) (c := 0) (x := 0) HRM.out.rs.z HRM.out.rs.y HRM.out.own)
                  have hex : (bd = true ∧ (¬ (k : Int) < (n : Int))) ∨ (bd = true ∧ (k : Int) < (n : Int)) ∨ (bd = false ∧ ¬ (k : Int) < (n : Int) ∧ a' < b.length) ∨ (bd = false ∧ ¬ (k : Int) < (n : Int) ∧ ¬ a' < b.length) := by
                    by_cases hlt : k < n
                    · refine .inr (.inl ⟨?_, by omega⟩)
                      cases bd with
                      | true => rfl
                      | false => exact absurd ⟨hlt, rfl⟩ hrun
                    · cases bd with
                      | true => exact .inl ⟨rfl, by omega⟩
                      | false =>
                        by_cases hal : a' < b.length
                        · exact .inr (.inr (.inl ⟨rfl, by omega, hal⟩))
                        · exact .inr (.inr (.inr ⟨rfl, by omega, hal⟩))
                  have HEX := Lib.hid hex
                  clear hex hrun HA HY4 hgg hk HRM
                  rcases HEX.out with ⟨hbt, hlti⟩ | ⟨hbt, hlti⟩ | ⟨hbt, hlti, hal⟩ | ⟨hbt, hlti, hal⟩
                  case inr.inr.inr =>
                    subst hbt
                    have hali : ¬ (a' : Int) < (b.length : Int) := by omega
                    have HK := Lib.hid (HE.out.2 rfl (by omega))
                    clear HEX HE
                    go_wp2_with fail
                    refine bodyPost_ret (results_two_cells rfl _ _ p (p + 1) 26 29 _ _ (0, 0) (0, 0) _ _ rfl HF2.out.1 Try.underlying26 rfl (by kernel_rfl) rfl HF2.out.2.1 Try.underlying29 rfl (by kernel_rfl)) rfl ?_
                    rw [HK.out.1, HK.out.2.1, HK.out.2.2]
                    exact ⟨_, _, rfl, HO2.out, HF2.out.2.2⟩
                  case inr.inr.inl =>
                    subst hbt
                    have hali : (a' : Int) < (b.length : Int) := by omega
                    have HK := Lib.hid (HE.out.1 (.inr hal))
                    clear HEX HE
                    go_upto_region 29 with fail
                    go_region
                    all_goals
                      go_wp2_with fail
                      refine bodyPost_ret (results_two_cells rfl _ _ p (p + 1) 26 29 _ _ (0, 0) (0, 0) _ _ rfl HF1.out.1 Try.underlying26 rfl (by kernel_rfl) rfl HF1.out.2.1 Try.underlying29 rfl (by kernel_rfl)) rfl ?_
                      rw [HK.out.1, HK.out.2.1, HK.out.2.2]
                      exact ⟨_, _, rfl, ModO.zero _ _, HF1.out.2.2⟩
                  all_goals
                    subst hbt
                    have HK := Lib.hid (HE.out.1 (.inl rfl))
                    clear HEX HE
                    go_upto_region 29 with fail
                    go_region
                    all_goals
                      go_wp2_with fail
                      refine bodyPost_ret (results_two_cells rfl _ _ p (p + 1) 26 29 _ _ (0, 0) (0, 0) _ _ rfl HF1.out.1 Try.underlying26 rfl (by kernel_rfl) rfl HF1.out.2.1 Try.underlying29 rfl (by kernel_rfl)) rfl ?_
                      rw [HK.out.1, HK.out.2.1, HK.out.2.2]
                      exact ⟨_, _, rfl, ModO.zero _ _, HF1.out.2.2⟩
end Go.Proofs.Ytibpbnffennmeaa
