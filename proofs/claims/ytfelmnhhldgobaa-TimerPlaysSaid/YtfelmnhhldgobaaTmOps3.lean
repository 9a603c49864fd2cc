/- container/heap's Pop, Remove, Init over a clock. -/
import Derived.Test.YtfelmnhhldgobaaTmOps2
namespace Go.Proofs.Ytfelmnhhldgobaa
open Go.RowKit
theorem fr_gc {g c : Nat} {w w' : World} (h : Fr (fun k => k = g) w w') : Fr (fun k => k = g ∨ k = c) w w' := h.wider fun _ _ e => .inl e
theorem own_gc {g c n cap : Nat} {w w' : World} (h : Fr (fun k => k = g ∨ k = c) w w') : Fr (OwnC c (.slice (some ⟨g, 0, none⟩) n cap)) w w' := h.wider fun _ _ e => by
  rcases e with rfl | rfl
  · exact .inr rfl
  · exact .inl rfl
theorem CKR.of_gc {w w' : World} {c g n cap n' cap' : Nat} {now last : Int} {l : List tm.T} (h : HQ w' c g n cap now last l) (hc : c < g) (hf : Fr (fun k => k = g ∨ k = c) w w') : CKR c (.slice (some ⟨g, 0, none⟩) n' cap') w w' now last l :=
  ⟨_, h.to_ck hc, own_gc hf, fun y hy => .inl (by
    rcases hy with rfl | hy
    · exact .inl rfl
    · exact .inr hy)⟩
set_option maxRecDepth 100000 in
set_option maxHeartbeats 3200000 in
theorem hpop_any (c k : Nat) (now last : Int) (V : Value) (l : List tm.T) (w : World) (h : CK w c now last V l) (hl : l.length = k + 1) (hk : k ≤ 900) : Calls Try.prog 39 #[.iface 68 (.pointer (some ⟨c, 2, none⟩))] w fun e w' => e = .returned (.iface 70 (tV (tm.ix (tm.popL l) k))) ∧ CKR c V w w' now last ((tm.popL l).take k) := by
  obtain ⟨g, cap, rfl, hcg, hq⟩ := h.hq (by omega)
  rw [hl] at hq ⊢
  obtain ⟨P, hP⟩ : ∃ P, tm.popL l = P := ⟨_, rfl⟩
  rw [hP]
  have HPL : Hid ((tm.down (k + 2) (tm.sw l 0 k) 0 k).1 = P) := Lib.hid (by rw [← hP]; unfold tm.popL; rw [hl]; rfl)
  have c2 := hq.cell.2.2
  have ml := meth_len c2
  have ms := meth_swap c2
  have mp := fun w => meth_pop c w
  have HL := Lib.hid (qlen_any (some ⟨g, 0, none⟩) (k + 1) cap w)
  have HS := Lib.hid (swap_any g (k + 1) cap 0 k l w hq.q (by omega) (by omega))
  have HH := Lib.hid (And.intro hq hcg)
  have e1 : wrap64 (((k + 1 : Nat) : Int) - 1) = (k : Int) := by unfold wrap64; omega
  have e3 : wrap64 ((k : Int) + 1 - 1) = (k : Int) := by unfold wrap64; omega
  clear h hP hcg hq hl c2
  go_enter Try.func39, Try.ntmps39
  go_wp2_with fail
  refine HL.out.mono ?_
  rintro e w' ⟨rfl, hw⟩
  replace hw := hw.symm
  subst hw
  go_wp2_with fail
  refine HS.out.mono ?_
  rintro e w2 ⟨rfl, hq2, f2⟩
  have H2 := Lib.hid (And.intro (HH.out.1.swap hq2 f2) f2)
  have HD := Lib.hid (down_any c g (k + 1) cap now last 0 k (k + 2) (tm.sw l 0 k) w2 H2.out.1 (by omega) (by omega) (by omega) (by omega))
  rw [HPL.out] at HD
  clear hq2 f2 ml ms HS HL
  go_wp2_with fail
  refine HD.out.mono ?_
  rintro e w3 ⟨rfl, hq3, f3⟩
  have H3 := Lib.hid (And.intro hq3 (H2.out.2.then f3))
  have HQ3 := Lib.hid (qpop_any c g k cap now last P w3 hq3 (by omega))
  clear hq3 f3 HD H2
  go_wp2_with fail
  refine HQ3.out.mono ?_
  rintro e w4 ⟨rfl, hq4, f4⟩
  have HZ := Lib.hid (CKR.of_gc (n' := k + 1) (cap' := cap) hq4 HH.out.2 ((fr_gc H3.out.2).then f4))
  clear hq4 f4
  go_wp2_with fail
  go_ret
  exact ⟨rfl, HZ.out⟩
set_option maxRecDepth 100000 in
set_option maxHeartbeats 3200000 in
theorem hremove_any (c i : Nat) (now last : Int) (V : Value) (l : List tm.T) (w : World) (h : CK w c now last V l) (hi : i < l.length) (hk : l.length ≤ 900) : Calls Try.prog 29 #[.iface 68 (.pointer (some ⟨c, 2, none⟩)), .int .i64 i] w fun e w' => (∃ v, e = .returned v) ∧ CKR c V w w' now last (tm.remove l i) := by
  obtain ⟨k, hl⟩ : ∃ k, l.length = k + 1 := ⟨l.length - 1, by omega⟩
  obtain ⟨g, cap, rfl, hcg, hq⟩ := h.hq (by omega)
  rw [hl] at hq ⊢
  obtain ⟨P, hP⟩ : ∃ P, tm.removeM l i = P := ⟨_, rfl⟩
  have HPR : Hid (tm.remove l i = P.take k) := Lib.hid (by unfold tm.remove; rw [hP, hl]; rfl)
  have HPM : Hid ((if k = i then l else if i < (tm.down (k + 2) (tm.sw l i k) i k).2 then (tm.down (k + 2) (tm.sw l i k) i k).1 else tm.up (k + 2) (tm.down (k + 2) (tm.sw l i k) i k).1 i) = P) := Lib.hid (by rw [← hP]; unfold tm.removeM; rw [hl]; rfl)
  rw [HPR.out]
  have c2 := hq.cell.2.2
  have ml := meth_len c2
  have mp := fun w => meth_pop c w
  have HL := Lib.hid (qlen_any (some ⟨g, 0, none⟩) (k + 1) cap w)
  have HH := Lib.hid (And.intro hq hcg)
  have e1 : wrap64 (((k + 1 : Nat) : Int) - 1) = (k : Int) := by unfold wrap64; omega
  have e3 : wrap64 ((k : Int) + 1 - 1) = (k : Int) := by unfold wrap64; omega
  by_cases hki : k = i
  · subst hki
    have hne : ((k : Int) != (k : Int)) = false := by simp
    have HQ3 := Lib.hid (qpop_any c g k cap now last P w (by have := HPM.out; rw [if_pos rfl] at this; exact this ▸ hq) (by omega))
    clear h hP hcg hq hl c2
    go_enter Try.func29, Try.ntmps29
    go_wp2_with fail
    refine HL.out.mono ?_
    rintro e w' ⟨rfl, hw⟩
    replace hw := hw.symm
    subst hw
    go_wp2_with fail
    refine HQ3.out.mono ?_
    rintro e w4 ⟨rfl, hq4, f4⟩
    have HZ := Lib.hid (CKR.of_gc (n' := k + 1) (cap' := cap) hq4 HH.out.2 f4)
    clear hq4 f4
    go_wp2_with fail
    go_ret
    exact ⟨⟨_, rfl⟩, HZ.out⟩
  · have hne : ((k : Int) != (i : Int)) = true := by simp; omega
    have ms := meth_swap c2
    have HS := Lib.hid (swap_any g (k + 1) cap i k l w hq.q (by omega) (by omega))
    have HPM2 : Hid ((if i < (tm.down (k + 2) (tm.sw l i k) i k).2 then (tm.down (k + 2) (tm.sw l i k) i k).1 else tm.up (k + 2) (tm.down (k + 2) (tm.sw l i k) i k).1 i) = P) := Lib.hid (by have := HPM.out; rwa [if_neg hki] at this)
    clear h hP hcg hq c2 HPM
    go_enter Try.func29, Try.ntmps29
    go_wp2_with fail
    refine HL.out.mono ?_
    rintro e w' ⟨rfl, hw⟩
    replace hw := hw.symm
    subst hw
    go_wp2_with fail
    refine HS.out.mono ?_
    rintro e w2 ⟨rfl, hq2, f2⟩
    have H2 := Lib.hid (And.intro (HH.out.1.swap hq2 f2) f2)
    have HD := Lib.hid (down_any c g (k + 1) cap now last i k (k + 2) (tm.sw l i k) w2 H2.out.1 (by omega) (by omega) (by omega) (by omega))
    clear hq2 f2 ml ms HS HL
    generalize tm.down (k + 2) (tm.sw l i k) i k = D at *
    by_cases hd : i < D.2
    · rw [decide_eq_true hd] at HD
      rw [if_pos hd] at HPM2
      go_wp2_with fail
      refine HD.out.mono ?_
      rintro e w3 ⟨rfl, hq3, f3⟩
      have H3 := Lib.hid (And.intro hq3 (H2.out.2.then f3))
      have HQ3 := Lib.hid (qpop_any c g k cap now last P w3 (HPM2.out ▸ hq3) (by omega))
      clear hq3 f3 HD H2
      go_wp2_with fail
      refine HQ3.out.mono ?_
      rintro e w4 ⟨rfl, hq4, f4⟩
      have HZ := Lib.hid (CKR.of_gc (n' := k + 1) (cap' := cap) hq4 HH.out.2 ((fr_gc H3.out.2).then f4))
      clear hq4 f4
      go_wp2_with fail
      go_ret
      exact ⟨⟨_, rfl⟩, HZ.out⟩
    · rw [decide_eq_false hd] at HD
      rw [if_neg hd] at HPM2
      go_wp2_with fail
      refine HD.out.mono ?_
      rintro e w3 ⟨rfl, hq3, f3⟩
      have H3 := Lib.hid (And.intro hq3 (H2.out.2.then f3))
      have HU := Lib.hid (up_any c g (k + 1) cap now last i (k + 2) D.1 w3 hq3 (by omega) (by omega))
      rw [HPM2.out] at HU
      clear hq3 f3 HD H2
      go_wp2_with fail
      refine HU.out.mono ?_
      rintro e w5 ⟨rfl, hq5, f5⟩
      have H5 := Lib.hid (And.intro hq5 (H3.out.2.then f5))
      have HQ3 := Lib.hid (qpop_any c g k cap now last P w5 hq5 (by omega))
      clear hq5 f5 HU H3
      go_wp2_with fail
      refine HQ3.out.mono ?_
      rintro e w4 ⟨rfl, hq4, f4⟩
      have HZ := Lib.hid (CKR.of_gc (n' := k + 1) (cap' := cap) hq4 HH.out.2 ((fr_gc H5.out.2).then f4))
      clear hq4 f4
      go_wp2_with fail
      go_ret
      exact ⟨⟨_, rfl⟩, HZ.out⟩
set_option maxRecDepth 100000 in
set_option maxHeartbeats 3200000 in
theorem hinit_any (c : Nat) (now last : Int) (V : Value) (l : List tm.T) (w : World) (h : CK w c now last V l) (hk : l.length ≤ 900) : Calls Try.prog 32 #[.iface 68 (.pointer (some ⟨c, 2, none⟩))] w fun e w' => e = .returned (.tuple #[]) ∧ CKR c V w w' now last (tm.init l) := by
  obtain ⟨o, cap, hV⟩ := h.slice
  obtain ⟨n, hn⟩ : ∃ n, l.length = n := ⟨_, rfl⟩
  rw [hn] at hV hk
  subst hV
  obtain ⟨R, hR⟩ : ∃ R, tm.init l = R := ⟨_, rfl⟩
  rw [hR]
  have HI : Hid (tm.initU (n / 2) l = R) := Lib.hid (by rw [← hR, ← hn]; rfl)
  have c2 := h.cell.2.2
  have ml := meth_len c2
  have HL := Lib.hid (qlen_any o n cap w)
  have hdiv : ((n : Int)).tdiv 2 = ((n / 2 : Nat) : Int) := by rw [Int.tdiv_eq_ediv_of_nonneg (by omega)]; rfl
  have e1 : wrap64 ((n : Int).tdiv 2) = ((n / 2 : Nat) : Int) := by rw [hdiv]; unfold wrap64; omega
  obtain ⟨d, hd⟩ : ∃ d, n / 2 = d := ⟨_, rfl⟩
  rw [hd] at e1 HI hdiv
  have e4 : (n : Int) / 2 = (d : Int) := by omega
  have e5 : wrap64 ((d : Int) - 1) = (d : Int) - 1 := by unfold wrap64; omega
  have HC := Lib.hid (show CK w c now last (.slice o n cap) l from h)
  clear h hR c2
  go_enter Try.func32, Try.ntmps32
  go_wp2_with fail
  refine HL.out.mono ?_
  rintro e w' ⟨rfl, hw⟩
  replace hw := hw.symm
  subst hw
  clear HL ml
  go_wp2_with fail
  by_cases h0 : n = 0
  · subst h0
    have HX : Hid (d = 0) := Lib.hid (by omega)
    obtain rfl : d = 0 := HX.out
    have HR : Hid (l = R) := Lib.hid (by have := HI.out; unfold tm.initU at this; exact this)
    go_loopg [3] 0 (fun gg s3 wr => s3 = .int .i64 (-1) ∧ wr = w)
    case atStart => exact ⟨rfl, rfl⟩
    case round =>
      obtain ⟨rfl, rfl⟩ := hrel
      go_wp2_with fail
      go_end0
      exact ⟨rfl, ⟨_, (show CK wr c now last (.slice o 0 cap) R by rw [← HR.out]; exact HC.out), Fr.refl _ _, fun _ h => .inl h⟩⟩
  · obtain ⟨g, cap', hv, hcg, hq⟩ := HC.out.hq (by omega)
    rw [hn] at hv hq
    injection hv with hv _ hv3
    subst hv hv3
    have HG := Lib.hid hcg
    have HQ0 := Lib.hid (And.intro hq (And.intro (Fr.refl (fun k => k = g) w) HI.out))
    have hdn : d ≤ n := by omega
    clear hq hcg HI
    go_loopg [3] d (fun gg s3 wr => ∃ (k : Nat) (m : List tm.T), s3 = .int .i64 ((k : Int) - 1) ∧ k ≤ d ∧ k ≤ gg ∧ Hid (HQ wr c g n cap now last m ∧ Fr (fun k => k = g) w wr ∧ tm.initU k m = R))
    case atStart => exact ⟨d, l, (by first | rfl | (simp; done) | (simp; omega)), Nat.le_refl _, Nat.le_refl _, HQ0⟩
    case round =>
      clear HQ0
      obtain ⟨k, m, rfl, hkd, hgg, HT⟩ := hrel
      by_cases hk0 : k = 0
      · subst hk0
        have HR : Hid (m = R) := Lib.hid (by have := HT.out.2.2; unfold tm.initU at this; exact this)
        have e6 : (((0 : Nat) : Int) - 1) = -1 := by decide
        go_wp2_with fail
        go_end0
        exact ⟨rfl, HR.out ▸ CKR.of_gc HT.out.1 HG.out (fr_gc HT.out.2.1)⟩
      · obtain ⟨j, rfl⟩ : ∃ j, k = j + 1 := ⟨k - 1, by omega⟩
        have hml := HT.out.1.q.len
        have HD := Lib.hid (down_any c g n cap now last j n (n + 1) m wr HT.out.1 (Nat.le_refl _) (by omega) (by omega) (by omega))
        have HU : Hid (tm.initU j (tm.down (n + 1) m j n).1 = R) := Lib.hid (by have := HT.out.2.2; unfold tm.initU at this; rwa [hml] at this)
        have e6 : (((j + 1 : Nat) : Int) - 1) = (j : Int) := by omega
        have e7 : wrap64 ((j : Int) - 1) = (j : Int) - 1 := by unfold wrap64; omega
        have hj0 : (0 : Int) ≤ (j : Int) := by omega
        generalize tm.down (n + 1) m j n = D at *
        clear hml
        go_wp2_with fail
        refine HD.out.mono ?_
        rintro e w3 ⟨rfl, hq3, f3⟩
        have HZ := Lib.hid (And.intro hq3 (And.intro (HT.out.2.1.then f3) HU.out))
        clear hq3 f3 HD HT HU
        go_wp2_with fail
        go_roundg j
        case measure => omega
        case rel => exact ⟨j, D.1, (by first | rfl | (simp; done) | (simp; omega)), by omega, Nat.le_refl _, HZ⟩
end Go.Proofs.Ytfelmnhhldgobaa
