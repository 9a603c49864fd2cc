/- The law's own set: a clock with timers. -/
import Derived.Test.YtfelmnhhldgobaaTmPartM
import Derived.Test.YtfelmnhhldgobaaTmPeriods
namespace Go.Proofs.Ytfelmnhhldgobaa
open Go.RowKit
theorem NsIn.cell {w : World} {D : Nat → Prop} {o : Option Addr} {m cap : Nat} {l : List Int} (h : NsIn w D (.slice o m cap) l) (k : Nat) (hk : k < l.length) : ∃ b off, o = some ⟨b, off, none⟩ ∧ b < w.heap.size ∧ w.cell? ⟨b, off + k, none⟩ = some (.int .i64 (l.getD k 0)) := by
  obtain ⟨b, off, e, -, hb, hc⟩ := RowIn.at_ h k hk
  exact ⟨b, off, e, hb, hc k _ (by simp [hk, List.getD_eq_getElem?_getD])⟩
theorem w_small (q : Nat) (h : q < 9223372036854775808) : wrap64 (q : Int) = (q : Int) := by unfold wrap64; omega
theorem tmod_nat (i m : Nat) : ((i : Int)).tmod (m : Int) = ((i % m : Nat) : Int) := by
  rw [Int.tmod_eq_emod_of_nonneg (by omega)]
  rfl
theorem r3b (i q : Nat) (hq : i % 3 = q) : ((i : Int)).tmod 3 = (q : Int) := by
  have h := tmod_nat i 3
  rw [hq] at h
  exact h
theorem r3c (i q : Nat) (hq : i % 3 = q) : (i : Int) % 3 = (q : Int) := by omega
theorem emod_nat (i m u : Nat) (h : i % m = u) : (i : Int) % (m : Int) = (u : Int) := by
  subst h
  rfl
set_option maxRecDepth 100000 in
set_option maxHeartbeats 400000 in
theorem setFn_any (VI VP : Value) (ns ps : List Int) (w : World) (hI : NsIn w (fun b => b < w.heap.size) VI ns) (hP : NsIn w (fun b => b < w.heap.size) VP ps) : Calls Try.prog 22 #[VI, VP] w fun e w' => e = .returned (.pointer (some ⟨w.heap.size, 0, none⟩)) ∧ (tm.Good (tm.setAll ps ns 0 tm.St.zero) ∧ (tm.setAll ps ns 0 tm.St.zero).now = 0) ∧ ∃ V, Mine w.heap.size w w' w.heap.size V (tm.setAll ps ns 0 tm.St.zero) := by
  obtain ⟨oI, cI, rfl, hI1, hI2, -, -⟩ := id hI
  obtain ⟨oP, cP, rfl, hP1, hP2, -, -⟩ := id hP
  obtain ⟨m, hm⟩ : ∃ m, ps.length = m := ⟨_, rfl⟩
  rw [hm] at hP1
  rw [hm]
  have HPI := Lib.hid (show NsIn w (fun b => b < w.heap.size) (.slice oP m cP) ps from hm ▸ hP)
  have HM := Lib.hid hm
  clear hP hm
  have HN := Lib.hid (newC_any w)
  obtain ⟨F, hF⟩ : ∃ F, tm.setAll ps ns 0 tm.St.zero = F := ⟨_, rfl⟩
  rw [hF]
  have HF := Lib.hid hF
  clear hF
  go_enter Try.func22, Try.ntmps22
  go_wp2_with fail
  with_reducible refine HN.out.mono ?_
  rintro e x ⟨rfl, hx⟩
  have b0 := below_one w (.cells #[.int .i64 0, .int .i64 0, .slice none 0 0] 65)
  have H0 : Hid (Mine w.heap.size w x w.heap.size (.slice none 0 0) tm.St.zero) := Lib.hid (hx ▸ ⟨CS.new w, b0, fun y hy => ((CS.new w).own_lt hy).1, b0.size⟩)
  clear hx b0 HN
  go_wp2_with fail
  go_loopg [6, 7, 8, 14] ns.length (fun gg s6 s7 s8 s14 wr => ∃ (i : Nat) (V1 : Value) (s : tm.St), s14 = .int .i64 i ∧ i ≤ ns.length ∧ ns.length - i ≤ gg ∧ Hid (Mine w.heap.size w wr w.heap.size V1 s ∧ tm.Good s ∧ s.last = (s.l.length : Int) ∧ tm.setAll ps (ns.drop i) i s = F ∧ s.now = 0))
  case atStart => exact ⟨0, _, _, rfl, Nat.zero_le _, Nat.le_refl _, Lib.hid ⟨H0.out, tm.Good.zero, rfl, HF.out, rfl⟩⟩
  case round =>
    clear H0
    obtain ⟨i, V1, s, rfl, hi, hgg, HT⟩ := hrel
    have HLL : Hid (0 ≤ s.last ∧ s.last < 4611686018427387904) := Lib.hid (by have := HT.out.2.2.1; have := HT.out.2.1.len; omega)
    by_cases hin : i < ns.length
    · have hin' : (i : Int) < (ns.length : Int) := by omega
      obtain ⟨bI, offI, eI, hbI, dI⟩ := NsIn.cell (RowIn.below hI HT.out.1.bel) i hin
      subst eI
      have hgd : ns.getD i 0 = ns[i] := by rw [List.getD_eq_getElem?_getD, List.getElem?_eq_getElem hin]; rfl
      have hdrop : ns.drop i = ns.getD i 0 :: ns.drop (i + 1) := (List.drop_eq_getElem_cons hin).trans (by rw [hgd])
      clear hgd
      have HD : Hid (∀ n, ns.getD i 0 = n → tm.setAll ps (ns.drop (i + 1)) (i + 1) (tm.setR s (1 + (i : Int) % 3) n (if ps.length = 0 then 0 else ps.getD (i % ps.length) 0)).2 = F) := Lib.hid (fun n hn => by have := HT.out.2.2.2.1; rw [hdrop, hn] at this; exact this)
      clear hdrop
      obtain ⟨n, hn⟩ : ∃ n, ns.getD i 0 = n := ⟨_, rfl⟩
      rw [hn] at dI
      have HD2 := Lib.hid (HD.out n hn)
      clear hn HD
      rcases Nat.eq_zero_or_pos m with hp0 | hp0
      · have HP0 := Lib.hid hp0
        have hd1 : decide (0 < m) = false := decide_eq_false (by omega)
        have hd2 : decide ((0 : Int) < (m : Int)) = false := decide_eq_false (by omega)
        clear hp0
        have HC := Lib.hid (set_any w.heap.size V1 s (1 + (i : Int) % 3) n 0 wr HT.out.1.ck HT.out.2.1 HLL.out _ rfl)
        have HE : Hid (tm.setAll ps (ns.drop (i + 1)) (i + 1) (tm.setR s (1 + (i : Int) % 3) n 0).2 = F) := Lib.hid (by have := HD2.out; rwa [if_pos (HM.out.trans HP0.out)] at this)
        have hG := HT.out.2.1.set (1 + (i : Int) % 3) n 0
        have hL := tm.setR_last s (1 + (i : Int) % 3) n 0 HT.out.2.2.1
        have hNw := (tm.setR_now s (1 + (i : Int) % 3) n 0).trans HT.out.2.2.2.2
        generalize tm.setR s (1 + (i : Int) % 3) n 0 = RR at *
        clear HD2
        go_wp2_with fail
        with_reducible refine HC.out.mono ?_
        rintro e w2 ⟨rfl, r⟩
        obtain ⟨V2, m2⟩ := HT.out.1.to r
        have HZ := Lib.hid (And.intro m2 (And.intro hG (And.intro hL (And.intro HE.out hNw))))
        clear m2 r hG hL hNw
        go_wp2_with fail
        go_roundg (ns.length - (i + 1))
        case measure => omega
        case rel => exact ⟨i + 1, V2, _, (by first | rfl | (simp; done) | (simp; omega)), by omega, Nat.le_refl _, HZ⟩
      · obtain ⟨bP, offP, eP, hbP, dP⟩ := NsIn.cell (RowIn.below HPI.out HT.out.1.bel) (i % m) (by rw [HM.out]; exact Nat.mod_lt _ hp0)
        subst eP
        have hmp : (0 : Int) < (m : Int) := Int.natCast_pos.2 hp0
        have HE0 : Hid (∀ pv, ps.getD (i % m) 0 = pv → tm.setAll ps (ns.drop (i + 1)) (i + 1) (tm.setR s (1 + (i : Int) % 3) n pv).2 = F) := Lib.hid (fun pv hpv => by have := HD2.out; rwa [if_neg (by rw [HM.out]; omega), HM.out, hpv] at this)
        obtain ⟨pv, hpv⟩ : ∃ pv, ps.getD (i % m) 0 = pv := ⟨_, rfl⟩
        rw [hpv] at dP
        have HE := Lib.hid (HE0.out pv hpv)
        have HC := Lib.hid (set_any w.heap.size V1 s (1 + (i : Int) % 3) n pv wr HT.out.1.ck HT.out.2.1 HLL.out _ rfl)
        have hG := HT.out.2.1.set (1 + (i : Int) % 3) n pv
        have hL := tm.setR_last s (1 + (i : Int) % 3) n pv HT.out.2.2.1
        have hNw := (tm.setR_now s (1 + (i : Int) % 3) n pv).trans HT.out.2.2.2.2
        generalize tm.setR s (1 + (i : Int) % 3) n pv = RR at *
        clear HD2 hpv HE0
        go_wp2_with fail
        with_reducible refine HC.out.mono ?_
        rintro e w2 ⟨rfl, r⟩
        obtain ⟨V2, m2⟩ := HT.out.1.to r
        have HZ := Lib.hid (And.intro m2 (And.intro hG (And.intro hL (And.intro HE.out hNw))))
        clear m2 r hG hL hNw
        go_wp2_with fail
        go_roundg (ns.length - (i + 1))
        case measure => omega
        case rel => exact ⟨i + 1, V2, _, (by first | rfl | (simp; done) | (simp; omega)), by omega, Nat.le_refl _, HZ⟩
        rename_i hfalse
        exact absurd ⟨Int.emod_nonneg _ (Int.ne_of_gt hmp), Int.emod_lt_of_pos _ hmp⟩ hfalse
    · obtain rfl : i = ns.length := by omega
      have HE : Hid (s = F) := Lib.hid (by have := HT.out.2.2.2.1; rw [List.drop_length] at this; exact this)
      go_wp2_with fail
      go_ret
      exact ⟨rfl, by rw [← HE.out]; exact ⟨HT.out.2.1, HT.out.2.2.2.2⟩, V1, by rw [← HE.out]; exact HT.out.1⟩
end Go.Proofs.Ytfelmnhhldgobaa
