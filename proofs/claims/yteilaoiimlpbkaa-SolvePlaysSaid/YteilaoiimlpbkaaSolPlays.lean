/- SolvePlays, walked: it returns true. -/
import Derived.Test.YteilaoiimlpbkaaSolRefShare
namespace Go.Proofs.Yteilaoiimlpbkaa
open Go.RowKit
attribute [local go_sem ↓ 10000] run_mn run_mx
/-- a size in a box of the call's own, and all that lay in W as it lay -/
structure BoxIn (W X : World) (b : Nat) (k n : Int) : Prop where
  c0 : X.cell? ⟨b, 0, none⟩ = some (.int .i64 k)
  c1 : X.cell? ⟨b, 1, none⟩ = some (.int .i64 n)
  lt : b < X.heap.size
  le : W.heap.size ≤ X.heap.size
  bl : Below W.heap.size W X
theorem BoxIn.step {W X X' : World} {b : Nat} {k n : Int} (h : BoxIn W X b k n) (hb : Below X.heap.size X X') : BoxIn W X' b k n :=
  ⟨(hb.cell (p := ⟨b, 0, none⟩) h.lt).trans h.c0, (hb.cell (p := ⟨b, 1, none⟩) h.lt).trans h.c1, Nat.lt_of_lt_of_le h.lt hb.size, Nat.le_trans h.le hb.size, h.bl.trans (hb.mono h.le)⟩
set_option maxRecDepth 100000 in
set_option maxHeartbeats 6400000 in
theorem plays_any (t : Int) (o : Option Addr) (n cap : Nat) (L : List sl.Sz) (w : World) (hs : SzIn w o n cap L) :
    Calls Try.prog 3 #[.int .i64 t, .slice o n cap] w fun e w' => e = .returned (.bool true) ∧ Below w.heap.size w w' := by
  have hm : cap ≤ 9223372036854775807 := hs.max
  have hle := hs.le
  have HS := Lib.hid hs
  have HLN := Lib.hid hs.len
  have HA := Lib.hid (alive_any w)
  have HSH := Lib.hid (fun W (h : SzIn W o n cap L) => share_any t o n cap L W h)
  have HRS := Lib.hid (fun W (h : SzIn W o n cap L) => refShare_any t o n cap L W h)
  have HLE := Lib.hid (fun W (h : SzIn W o n cap L) => least_any o n cap L W h)
  have HRL := Lib.hid (fun W (h : SzIn W o n cap L) => refLeast_any o n cap L W h)
  unfold Shared RShared at *
  clear hs
  generalize sl.err t L = er at *
  generalize sl.share t L = zs at *
  generalize sl.least L = ll at *
  have eer : (er != er) = false := by simp
  have ell : (ll != ll) = false := by simp
  go_enter Try.func3, Try.ntmps3
  go_wp2_with fail
  refine HA.out.mono ?_
  rintro e w1 ⟨rfl, hb1⟩
  have HB1 := Lib.hid hb1
  have HS1 := Lib.hid (HS.out.below hb1)
  clear hb1 HA
  go_wp2_with fail
  refine (HSH.out w1 HS1.out).mono ?_
  rintro e w2 ⟨V, rfl, hr2, hb2⟩
  obtain ⟨ao, ac, rfl, hia⟩ := Ints.of_own hr2
  have hac : ac ≤ 9223372036854775807 := hia.max
  have HB2 := Lib.hid (HB1.out.trans (hb2.mono HB1.out.size))
  have HS2 := Lib.hid (HS1.out.below hb2)
  have HRA2 := Lib.hid hr2
  clear hr2 hb2 hia
  go_wp2_with fail
  refine (HRS.out w2 HS2.out).mono ?_
  rintro e w3 ⟨U, rfl, hr3, hb3⟩
  obtain ⟨bo, bc, rfl, hib⟩ := Ints.of_own hr3
  have hbc : bc ≤ 9223372036854775807 := hib.max
  have HB3 := Lib.hid (HB2.out.trans (hb3.mono HB2.out.size))
  have HS3 := Lib.hid (HS2.out.below hb3)
  have HRA3 := Lib.hid (row_below HRA2.out hb3)
  have HIB3 := Lib.hid hib
  have HSEP : Hid (∀ a : Addr, bo = some a → zs ≠ [] → w2.heap.size ≤ a.block) := Lib.hid (fun a ha hne => by
    subst ha
    have hn0 : 0 < zs.length := List.length_pos_iff.2 hne
    obtain ⟨g, c, he, hg, _⟩ := own_some hr3 hn0
    cases he
    exact hg)
  have hw1 : w.heap.size ≤ w1.heap.size := HB1.out.size
  clear hr3 hb3 hib HRS HS1 HS2 HB1 HB2
  obtain ⟨lz, hlz⟩ : ∃ lz, zs.length = lz := ⟨_, rfl⟩
  have HLZ := Lib.hid hlz
  rw [hlz] at HRA2 HRA3 HIB3
  have HRA2' := Lib.hid HRA2.out
  clear HRA2
  rw [hlz]
  clear hlz
  go_wp2_with fail
  refine (same_any _ _ _ _ _ _ _ _ w3 ((Ints.of_own HRA3.out).elim fun o' h => h.elim fun c' h' => by cases h'.1; exact h'.2) HIB3.out).mono ?_
  rintro e w4' ⟨rfl, j, rfl⟩
  have HB4 : Hid (Below w.heap.size w (w3.drewN j)) := Lib.hid (below_drewN HB3.out j)
  have HS4 : Hid (SzIn (w3.drewN j) o n cap L) := Lib.hid ⟨HS3.out.len, HS3.out.le, HS3.out.max, HS3.out.at_⟩
  have HRA4 : Hid ((w3.drewN j).ownsRow w1.heap.size 3 1 (.slice ao lz ac) lz (zs.map (Value.int .i64))) := Lib.hid HRA3.out
  have HIB4 := Lib.hid (HIB3.out.drewN j)
  clear HB3 HS3 HRA3 HIB3
  generalize (w3.drewN j) = w4 at *
  go_wp2_with fail
  refine (HLE.out w4 HS4.out).mono ?_
  rintro e w5 ⟨rfl, hb5⟩
  have HB5 := Lib.hid (HB4.out.trans (hb5.mono HB4.out.size))
  have HS5 := Lib.hid (HS4.out.below hb5)
  have HRA5 := Lib.hid (row_below HRA4.out hb5)
  have HIB5 := Lib.hid (HIB4.out.below hb5)
  clear hb5 HB4 HS4 HRA4 HIB4
  go_wp2_with fail
  refine (HRL.out w5 HS5.out).mono ?_
  rintro e w6 ⟨rfl, hb6⟩
  have HB6 := Lib.hid (HB5.out.trans (hb6.mono HB5.out.size))
  have HS6 := Lib.hid (HS5.out.below hb6)
  have HRA6 := Lib.hid (row_below HRA5.out hb6)
  have HIB6 := Lib.hid (HIB5.out.below hb6)
  clear hb6 HB5 HS5 HRA5 HIB5 HLE HRL
  go_wp2_with fail
  go_loopg [46] n (fun gg s46 wr => ∃ k : Nat, s46 = .int .i64 k ∧ k ≤ n ∧ n - k ≤ gg ∧ Hid (Below w6.heap.size w6 wr))
  case atStart => exact ⟨0, rfl, Nat.zero_le _, by omega, Lib.hid (Below.refl _ _)⟩
  case round =>
    obtain ⟨k, rfl, hk, hgg, HA⟩ := hrel
    by_cases hlt : k < n
    · obtain ⟨b, off, rfl, hb, k0, k1⟩ := (HS6.out.below HA.out).cell hlt
      generalize L.getD k sl.z0 = s at *
      obtain ⟨sk, sn⟩ := s
      dsimp only at k0 k1
      have hki : (k : Int) < (n : Int) := by omega
      have HD : Hid (sl.errOf ⟨sk, sn⟩ = if sl.good ⟨sk, sn⟩ then 0 else 1) := Lib.hid rfl
      have HC := Lib.hid (fun W => check_any sk sn W)
      have HG := Lib.hid (fun W => right_any sk sn W)
      generalize sl.errOf ⟨sk, sn⟩ = E at *
      generalize sl.good ⟨sk, sn⟩ = G at *
      have HBX : Hid (BoxIn wr (wr.alloc (.cells #[.int .i64 sk, .int .i64 sn] 33)) wr.heap.size sk sn) := Lib.hid ⟨cell_fresh wr #[.int .i64 sk, .int .i64 sn] 33 0, cell_fresh wr #[.int .i64 sk, .int .i64 sn] 33 1, by simp, by simp, (Below.refl _ _).alloc (Nat.le_refl _) _⟩
      cases G
      all_goals
        first
          | obtain rfl : E = 0 := HD.out
          | obtain rfl : E = 1 := HD.out
        go_upto_region 10 with fail
        clear k0 k1
        generalize (wr.alloc (.cells #[.int .i64 sk, .int .i64 sn] 33)) = W1 at *
        have HTD : Hid (BoxIn wr W1.drew wr.heap.size sk sn) := Lib.hid ⟨HBX.out.c0, HBX.out.c1, HBX.out.lt, HBX.out.le, HBX.out.bl.drew⟩
        obtain ⟨c0, c1, u0, _, _⟩ := HBX.out
        go_region_with (first
          | (go_at_call 13; refine (HC.out _).mono ?_; rintro e wa ⟨rfl, hba⟩; have ta := (by first | exact HTD.out.step hba | exact BoxIn.step tb.out hba : BoxIn wr wa wr.heap.size sk sn); obtain ⟨ca0, ca1, ua0, _, _⟩ := id ta; replace ta := Lib.hid ta; clear hba)
          | (go_at_call 14; refine (HG.out _).mono ?_; rintro e wb ⟨rfl, hbb⟩; have tb := (by first | exact HTD.out.step hbb | exact BoxIn.step ta.out hbb : BoxIn wr wb wr.heap.size sk sn); obtain ⟨cb0, cb1, ub0, _, _⟩ := id tb; replace tb := Lib.hid tb; clear hbb))
        all_goals
          go_wp2_with fail
          go_roundg (n - (k + 1))
          case measure => omega
          case rel =>
            refine ⟨k + 1, by go_num, by omega, Nat.le_refl _, Lib.hid ?_⟩
            first
              | exact HA.out.trans (tb.out.bl.mono HA.out.size)
              | exact HA.out.trans (ta.out.bl.mono HA.out.size)
    · obtain rfl : k = n := by omega
      have HB7 := Lib.hid (HB6.out.trans (HA.out.mono HB6.out.size))
      have HRA7 := Lib.hid (row_below HRA6.out HA.out)
      have HIB7 := Lib.hid (HIB6.out.below HA.out)
      clear HA HB6 HRA6 HIB6 hgg
      by_cases hl0 : lz = 0
      · subst hl0
        go_wp2_with fail
        go_loopg [59] 0 (fun gg s59 wq => s59 = .int .i64 ((0 : Nat) : Int) ∧ Hid (wq = wr))
        case atStart => exact ⟨rfl, Lib.hid rfl⟩
        case round =>
          obtain ⟨rfl, hw⟩ := hrel
          obtain rfl := hw.out
          go_wp2_with fail
          refine (HSH.out _ (HS.out.below HB7.out)).mono ?_
          rintro e w8 ⟨V8, rfl, hr8, hb8⟩
          obtain ⟨co, cc, rfl, hic⟩ := Ints.of_own hr8
          have HB9 := Lib.hid (HB7.out.trans (hb8.mono HB7.out.size))
          have HSI := Lib.hid (same_any _ _ _ _ _ _ _ _ w8 hic (HIB7.out.below hb8))
          have hcc : cc ≤ 9223372036854775807 := hic.max
          clear hr8 hb8 hic
          go_wp2_with fail
          refine HSI.out.mono ?_
          rintro e w9 ⟨rfl, j9, rfl⟩
          go_wp2_with fail
          go_ret
          exact ⟨ret_bool (by simp), below_drewN HB9.out j9⟩
      · have hlp : 0 < lz := by omega
        obtain ⟨g, ac', he, hg1, _, hlac, _⟩ := own_some HRA7.out hlp
        cases he
        have hg2 : g < w2.heap.size := (RowI.lt (show RowI w2 w1.heap.size g ac lz zs from HRA2'.out)).2
        have HRI : Hid (RowI wr w1.heap.size g ac lz zs) := Lib.hid HRA7.out
        have HNE : Hid (∀ a : Addr, bo = some a → a.block ≠ g) := Lib.hid (fun a ha => by
          have := HSEP.out a ha (fun h => by have := HLZ.out; rw [h] at this; simp at this; omega)
          omega)
        clear HRA7 HRA2'
        generalize wr = wo at *
        go_wp2_with fail
        go_loopg [59] lz (fun gg s59 wq => ∃ q : Nat, s59 = .int .i64 q ∧ q ≤ lz ∧ lz - q ≤ gg ∧ Hid ((∃ ys, RowI wq w1.heap.size g ac lz ys) ∧ Kept wo wq (· = g)))
        case atStart => exact ⟨0, rfl, Nat.zero_le _, by omega, Lib.hid ⟨⟨zs, HRI.out⟩, Kept.refl _ _⟩⟩
        case round =>
          obtain ⟨q, rfl, hq, hgg, HA⟩ := hrel
          by_cases hlt2 : q < lz
          · obtain ⟨⟨ys, hy⟩, hk⟩ := HA.out
            have hcq := hy.cell hlt2
            have hfq := hy.frozen q
            have hqi : (q : Int) < (lz : Int) := by omega
            have hqc : q < ac := by omega
            have HN : Hid ((∃ ys, RowI (wr.setCell ⟨g, q, none⟩ (.int .i64 (-1))) w1.heap.size g ac lz ys) ∧ Kept wo (wr.setCell ⟨g, q, none⟩ (.int .i64 (-1))) (· = g)) := Lib.hid ⟨⟨_, hy.set q (-1)⟩, hk.setCell (p := ⟨g, q, none⟩) (fun _ => rfl) _⟩
            clear hy hk
            go_wp2_with fail
            go_roundg (lz - (q + 1))
            case measure => omega
            case rel => exact ⟨q + 1, by go_num, by omega, Nat.le_refl _, HN⟩
          · obtain rfl : q = lz := by omega
            have HB8 := Lib.hid (HB7.out.trans (HA.out.2.below HB7.out.size (fun k h => by have h' : k = g := h; omega)))
            have HIB8 := Lib.hid (HIB7.out.kept_ne HA.out.2 HNE.out)
            clear HA
            go_wp2_with fail
            refine (HSH.out _ (HS.out.below HB8.out)).mono ?_
            rintro e w8 ⟨V8, rfl, hr8, hb8⟩
            obtain ⟨co, cc, rfl, hic⟩ := Ints.of_own hr8
            have HB9 := Lib.hid (HB8.out.trans (hb8.mono HB8.out.size))
            have HSI := Lib.hid (same_any _ _ _ _ _ _ _ _ w8 hic (HIB8.out.below hb8))
            have hcc : cc ≤ 9223372036854775807 := hic.max
            clear hr8 hb8 hic
            go_wp2_with fail
            refine HSI.out.mono ?_
            rintro e w9 ⟨rfl, j9, rfl⟩
            go_wp2_with fail
            go_ret
            exact ⟨ret_bool (by simp), below_drewN HB9.out j9⟩
end Go.Proofs.Yteilaoiimlpbkaa
