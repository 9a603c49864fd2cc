/- The document's number. -/
import Derived.Test.YtibpbnffennmeaaMdRefPair
namespace Go.Proofs.Ytibpbnffennmeaa
open Go.RowKit
/-- what the document's reader of a long number answers -/
def IntAns (o : Option Addr) (cap : Nat) (b : List UInt8) (w w' : World) (e : Ending) (r : Int × md.St) : Prop :=
  ∃ (a : Nat) (v : Int), e = .returned (.tuple #[.int .i64 v, stV o b.length cap a (!r.2.bad)]) ∧ (r.2.bad = false → v = r.1) ∧ a ≤ b.length ∧ r.2.rest = b.drop a ∧ Below w.heap.size w w'
theorem drop_inj {b : List UInt8} {a c : Nat} (ha : a ≤ b.length) (hc : c ≤ b.length) (h : b.drop a = b.drop c) : a = c := by
  have := congrArg List.length h
  simp at this
  omega
def md.hiK (k : Nat) : Nat := if k = 9 then 1 else 255
theorem md.one_cases (b : List UInt8) (k a : Nat) (bd : Bool) (ha : a ≤ b.length) :
    ((md.one 0 (md.hiK k) ⟨b.drop a, bd⟩).2.bad = true ∧ (md.one 0 (md.hiK k) ⟨b.drop a, bd⟩).2.rest = b.drop a ∧ (md.next (fun c => md.mayBe c k) ⟨b.drop a, bd⟩).2 = ⟨b.drop a, true⟩) ∨
    (bd = false ∧ ∃ h : a < b.length, md.one 0 (md.hiK k) ⟨b.drop a, bd⟩ = (b[a].toNat, ⟨b.drop (a + 1), false⟩) ∧ (k = 9 → b[a].toNat ≤ 1) ∧ md.next (fun c => md.mayBe c k) ⟨b.drop a, bd⟩ = (if md.mayBe b[a] k = true then (b[a], ⟨b.drop (a + 1), false⟩) else (0, ⟨b.drop a, true⟩))) := by
  cases bd with
  | true => exact .inl ⟨by rw [md.one_bad], by rw [md.one_bad], by cases b.drop a <;> rfl⟩
  | false =>
    by_cases hn : a < b.length
    · by_cases hf : md.fits 0 (md.hiK k) b[a].toNat = true
      · refine .inr ⟨rfl, hn, by rw [md.one_at b 0 _ a hn, if_pos hf], fun h9 => ?_, ?_⟩
        · unfold md.fits md.hiK at hf
          rw [if_pos h9] at hf
          simp only [decide_eq_true_eq] at hf
          exact hf.2
        · rw [List.drop_eq_getElem_cons hn]
          rfl
      · refine .inl ⟨by rw [md.one_at b 0 _ a hn, if_neg hf], by rw [md.one_at b 0 _ a hn, if_neg hf], ?_⟩
        have hm : ¬ md.mayBe b[a] k = true := by
          unfold md.fits md.hiK at hf
          unfold md.mayBe
          have := b[a].toNat_lt
          by_cases h9 : k = 9
          · rw [if_pos h9] at hf
            rw [if_neg (by omega), if_pos h9]
            simp only [decide_eq_true_eq] at hf ⊢
            omega
          · rw [if_neg h9] at hf
            simp only [decide_eq_true_eq] at hf
            omega
        rw [List.drop_eq_getElem_cons hn]
        unfold md.next
        simp only [if_neg hm]
    · refine .inl ⟨by rw [md.one_end b 0 _ a (by omega)], by rw [md.one_end b 0 _ a (by omega)], ?_⟩
      rw [List.drop_eq_nil_of_le (by omega)]
      rfl
theorem md.num_stop (f k : Nat) (s : md.St) (l : List UInt8) (h : (md.next (fun c => md.mayBe c k) s).2 = ⟨l, true⟩) : (md.num (f + 1) k s).2 = ⟨l, true⟩ := by
  show (md.bnd _ _ _).2 = _
  unfold md.bnd
  rw [h]
  dsimp only
  split
  · rfl
  · exact ((md.Good.num f (k + 1)).bnd fun _ => md.Good.ret _).stuck l
theorem md.num_go (f k : Nat) (s : md.St) (c : UInt8) (l : List UInt8) (h : md.next (fun c => md.mayBe c k) s = (c, ⟨l, false⟩)) : md.num (f + 1) k s = if c.toNat < 128 then (c.toNat % 128 * 128 ^ k, ⟨l, false⟩) else (c.toNat % 128 * 128 ^ k + (md.num f (k + 1) ⟨l, false⟩).1, (md.num f (k + 1) ⟨l, false⟩).2) := by
  show md.bnd _ _ _ = _
  unfold md.bnd
  rw [h]
  dsimp only
  split <;> rfl
theorem pow_bound {k u x : Nat} (hk : k ≤ 9) (hu : u < 128 ^ k) (hx : x < 128) (h9 : k = 9 → x ≤ 1) : u + x * 128 ^ k < 18446744073709551616 ∧ u + x * 128 ^ k < 128 ^ (k + 1) := by
  have h2 : u + x * 128 ^ k < 128 ^ (k + 1) := by
    have := Nat.mul_le_mul_right (128 ^ k) (show x + 1 ≤ 128 by omega)
    rw [Nat.pow_succ, Nat.mul_comm (128 ^ k) 128]
    rw [Nat.add_mul] at this
    omega
  refine ⟨?_, h2⟩
  by_cases e : k = 9
  · subst e
    have := h9 rfl
    have e9 : (128 : Nat) ^ 9 = 9223372036854775808 := by decide
    rw [e9] at hu ⊢
    omega
  · have : (128 : Nat) ^ (k + 1) ≤ 128 ^ 9 := Nat.pow_le_pow_right (by decide) (by omega)
    have e9 : (128 : Nat) ^ 9 = 9223372036854775808 := by decide
    rw [e9] at this
    omega

set_option maxRecDepth 100000 in
set_option maxHeartbeats 6400000 in
theorem rnum_any (D : Nat → Prop) (o : Option Addr) (cap : Nat) (b : List UInt8) (a : Nat) (bad : Bool) (w : World) (hin : BsIn w D (.slice o b.length cap) b) (ha : a ≤ b.length) :
    Calls Try.prog 24 #[stV o b.length cap a (!bad)] w fun e w' => IntAns o cap b w w' e (md.number ⟨b.drop a, bad⟩) := by
  unfold IntAns
  obtain ⟨hc1, hc2⟩ := (RowIn.lens hin).2
  have hx := two_new w (stO o b.length cap a (!bad)) stZ
  have HX := Lib.hid hx
  have HIN := Lib.hid hin
  have HNN : Hid ((md.number ⟨b.drop a, bad⟩).1 = md.unf (md.num 10 0 ⟨b.drop a, bad⟩).1 ∧ (md.number ⟨b.drop a, bad⟩).2 = (md.num 10 0 ⟨b.drop a, bad⟩).2) := Lib.hid ⟨rfl, rfl⟩
  have H0 : Hid ((md.num 10 0 ⟨b.drop a, bad⟩).2 = (md.num 10 0 ⟨b.drop a, bad⟩).2 ∧ ((md.num 10 0 ⟨b.drop a, bad⟩).2.bad = false → 0 + (md.num 10 0 ⟨b.drop a, bad⟩).1 = (md.num 10 0 ⟨b.drop a, bad⟩).1)) := Lib.hid ⟨rfl, fun _ => Nat.zero_add _⟩
  obtain ⟨N, hN⟩ : ∃ N, md.num 10 0 ⟨b.drop a, bad⟩ = N := ⟨_, rfl⟩
  have H1 : Hid ((md.num 10 0 ⟨b.drop a, bad⟩).2 = N.2 ∧ (N.2.bad = false → 0 + (md.num 10 0 ⟨b.drop a, bad⟩).1 = N.1)) := Lib.hid (by rw [← hN]; exact H0.out)
  rw [HNN.out.1, HNN.out.2, hN]
  clear hx hin hN H0 HNN
  go_enter Try.func24, Try.ntmps24
  go_upto_region 3 with fail
  generalize (w.alloc (stO o b.length cap a (!bad))).alloc stZ = w2 at *
  obtain ⟨p, hp⟩ : ∃ p, w.heap.size = p := ⟨_, rfl⟩
  have HX2 : Hid (w2.heap[p]? = some (stO o b.length cap a (!bad)) ∧ w2.heap[p + 1]? = some stZ ∧ Below w.heap.size w w2) := Lib.hid (by rw [← hp]; exact HX.out)
  clear HX
  have HP := Lib.hid hp
  rw [hp]
  clear hp
  go_loopg [4, 5] 10 (fun gg s4 s5 wr => ∃ (k f u a' : Nat) (bd : Bool), s4 = u64V u ∧ s5 = .int .i64 k ∧ k + f = 10 ∧ f ≤ gg ∧ a' ≤ b.length ∧ u < 18446744073709551616 ∧ Hid (u < 128 ^ k ∧ (wr.heap[p]? = some (stO o b.length cap a' (!bd)) ∧ wr.heap[p + 1]? = some stZ ∧ Below w.heap.size w wr) ∧ (md.num f k ⟨b.drop a', bd⟩).2 = N.2 ∧ (N.2.bad = false → u + (md.num f k ⟨b.drop a', bd⟩).1 = N.1)))
  case atStart => exact ⟨0, 10, 0, a, bad, rfl, rfl, rfl, Nat.le_refl _, ha, by decide, Lib.hid ⟨by decide, HX2.out, H1.out.1, H1.out.2⟩⟩
  case round =>
    clear HX2 H1
    obtain ⟨k, f, u, a', bd, rfl, rfl, hkf, hgg, ha', hu64, HA⟩ := hrel
    have HX2 := Lib.hid HA.out.2.1
    have k0 : wr.cell? ⟨p, 0, none⟩ = some (.slice o b.length cap) := (cell_of_heap HX2.out.1).trans rfl
    have k1 : wr.cell? ⟨p, 1, none⟩ = some (.int .i64 a') := (cell_of_heap HX2.out.1).trans rfl
    have k2 : wr.cell? ⟨p, 2, none⟩ = some (.bool (!bd)) := (cell_of_heap HX2.out.1).trans rfl
    have f0 := thaw (k := 0) HX2.out.1
    have f1 := thaw (k := 1) HX2.out.1
    have f2 := thaw (k := 2) HX2.out.1
    have hlp := heap_lt HX2.out.1
    cases f with
    | zero =>
      obtain rfl : k = 10 := by omega
      have HN1 : Hid (N.2.bad = false → u = N.1) := Lib.hid (fun h => HA.out.2.2.2 h)
      have HN2 : Hid (N.2 = ⟨b.drop a', bd⟩) := Lib.hid HA.out.2.2.1.symm
      clear HA
      have HF := Lib.hid (fill_one HX2.out.2.1 HX2.out.2.2 (by rw [HP.out]; omega) (.slice o b.length cap) (.int .i64 a') (.bool (!bd)))
      by_cases hu1 : u % 2 = 1
      · have e9 : (((u : Int) % 2) == 1) = true := by simp; omega
        have HV : Hid (-((u : Int) / 2) - 1 = md.unf u) := Lib.hid (by unfold md.unf; split <;> omega)
        clear hu1
        go_upto_region 23 with fail
        have d0 : wr.cell? ⟨p + 1, 0, none⟩ = some (.slice none 0 0) := (cell_of_heap HX2.out.2.1).trans rfl
        have d1 : wr.cell? ⟨p + 1, 1, none⟩ = some (.int .i64 0) := (cell_of_heap HX2.out.2.1).trans rfl
        have d2 : wr.cell? ⟨p + 1, 2, none⟩ = some (.bool false) := (cell_of_heap HX2.out.2.1).trans rfl
        have e0 := thaw (k := 0) HX2.out.2.1
        have e1 := thaw (k := 1) HX2.out.2.1
        have e2 := thaw (k := 2) HX2.out.2.1
        have hl3 := heap_lt HX2.out.2.1
        go_region
        all_goals
          go_wp2_with fail
          refine bodyPost_ret (results_tmp_row rfl _ _ (p + 1) 46 _ (0, 0) _ rfl HF.out.1 Try.underlying46 rfl (by kernel_rfl)) rfl ?_
          refine ⟨_, md.unf u, ?_, fun h => ?_, ha', ?_, HF.out.2⟩
          · rw [← HV.out, HN2.out]
            rfl
          · exact congrArg md.unf (HN1.out h)
          · rw [HN2.out]
      · have e9 : (((u : Int) % 2) == 1) = false := by simp; omega
        have HV : Hid ((u : Int) / 2 = md.unf u) := Lib.hid (by unfold md.unf; split <;> omega)
        clear hu1
        go_upto_region 24 with fail
        have d0 : wr.cell? ⟨p + 1, 0, none⟩ = some (.slice none 0 0) := (cell_of_heap HX2.out.2.1).trans rfl
        have d1 : wr.cell? ⟨p + 1, 1, none⟩ = some (.int .i64 0) := (cell_of_heap HX2.out.2.1).trans rfl
        have d2 : wr.cell? ⟨p + 1, 2, none⟩ = some (.bool false) := (cell_of_heap HX2.out.2.1).trans rfl
        have e0 := thaw (k := 0) HX2.out.2.1
        have e1 := thaw (k := 1) HX2.out.2.1
        have e2 := thaw (k := 2) HX2.out.2.1
        have hl3 := heap_lt HX2.out.2.1
        go_region
        all_goals
          go_wp2_with fail
          refine bodyPost_ret (results_tmp_row rfl _ _ (p + 1) 46 _ (0, 0) _ rfl HF.out.1 Try.underlying46 rfl (by kernel_rfl)) rfl ?_
          refine ⟨_, md.unf u, ?_, fun h => ?_, ha', ?_, HF.out.2⟩
          · rw [← HV.out, HN2.out]
            rfl
          · exact congrArg md.unf (HN1.out h)
          · rw [HN2.out]
    | succ f =>
      have hki : (k : Int) < 10 := by omega
      have HC := Lib.hid (md.one_cases b k a' bd ha')
      have HONE := Lib.hid (fun W h => rone_any D o cap b 0 (md.hiK k) a' bd W h ha')
      have hinr := RowIn.below HIN.out HX2.out.2.2
      have HINR := Lib.hid hinr
      clear hinr
      have HHI : Hid ((k = 9 → md.hiK k = 1) ∧ (k ≠ 9 → md.hiK k = 255)) := Lib.hid ⟨fun h => by unfold md.hiK; rw [if_pos h], fun h => by unfold md.hiK; rw [if_neg h]⟩
      have h9 : (k = 9 ∧ ((k : Int) == 9) = true ∧ md.hiK k = 1) ∨ (k ≠ 9 ∧ ((k : Int) == 9) = false ∧ md.hiK k = 255) := by
        by_cases e : k = 9
        · exact .inl ⟨e, by simp; omega, HHI.out.1 e⟩
        · exact .inr ⟨e, by simp; omega, HHI.out.2 e⟩
      clear HHI
      rcases h9 with ⟨-, h2, h3⟩ | ⟨-, h2, h3⟩
      case' inl => rw [show ((md.hiK k : Nat) : Int) = 1 by rw [h3]; rfl] at HONE
      case' inr => rw [show ((md.hiK k : Nat) : Int) = 255 by rw [h3]; rfl] at HONE
      all_goals
        go_wp2_with fail
        refine (HONE.out _ HINR.out).mono ?_
        rintro e w3 ⟨a3, rfl, ha3, hr3, hb3⟩
        rcases HC.out with ⟨hb, hr, hnx⟩ | ⟨rfl, hn, ho, h9x, hnx⟩
        case inl =>
          obtain rfl : a3 = a' := drop_inj ha3 ha' (hr3.symm.trans hr)
          have HN2 : Hid (N.2 = ⟨b.drop a3, true⟩) := Lib.hid (HA.out.2.2.1.symm.trans (md.num_stop f k _ _ hnx))
          rw [hb]
          generalize (md.one 0 (md.hiK k) ⟨b.drop a3, bd⟩).1 = v1 at *
          clear hb hr hnx hr3 HC HONE HINR HA
          have hba := below_one w3 (.cells #[.slice o b.length cap, .int .i64 (a3 : Nat), .bool false] 46)
          have hbw : Below w.heap.size w (w3.alloc (.cells #[.slice o b.length cap, .int .i64 (a3 : Nat), .bool false] 46)) := (HX2.out.2.2.trans (hb3.mono HX2.out.2.2.size)).trans (hba.mono (HX2.out.2.2.trans (hb3.mono HX2.out.2.2.size)).size)
          have hp4 := (hba.block _ (heap_lt ((hb3.block _ (heap_lt HX2.out.1)).trans HX2.out.1))).trans ((hb3.block _ (heap_lt HX2.out.1)).trans HX2.out.1)
          have hz4 := (hba.block _ (heap_lt ((hb3.block _ (heap_lt HX2.out.2.1)).trans HX2.out.2.1))).trans ((hb3.block _ (heap_lt HX2.out.2.1)).trans HX2.out.2.1)
          have hpq : p + 1 < w3.heap.size := heap_lt ((hb3.block _ (heap_lt HX2.out.2.1)).trans HX2.out.2.1)
          have HX4 := Lib.hid (And.intro (heap_alloc_new w3 (.cells #[.slice o b.length cap, .int .i64 (a3 : Nat), .bool false] 46)) (And.intro hp4 (And.intro hz4 hbw)))
          clear hba hbw hp4 hz4 hb3 HX2 k0 k1 k2 f0 f1 f2 hlp
          go_upto_region 10 with fail
          generalize w3.alloc (.cells #[.slice o b.length cap, .int .i64 (a3 : Nat), .bool false] 46) = w4 at *
          generalize w3.heap.size = q at *
          have q0 : w4.cell? ⟨q, 0, none⟩ = some (.slice o b.length cap) := (cell_of_heap HX4.out.1).trans rfl
          have q1 : w4.cell? ⟨q, 1, none⟩ = some (.int .i64 (a3 : Nat)) := (cell_of_heap HX4.out.1).trans rfl
          have q2 : w4.cell? ⟨q, 2, none⟩ = some (.bool false) := (cell_of_heap HX4.out.1).trans rfl
          have hlq := heap_lt HX4.out.1
          have HF := Lib.hid (fill_one HX4.out.2.2.1 HX4.out.2.2.2 (by rw [HP.out]; omega) (.slice o b.length cap) (.int .i64 (a3 : Nat)) (.bool false))
          have d0 : w4.cell? ⟨p + 1, 0, none⟩ = some (.slice none 0 0) := (cell_of_heap HX4.out.2.2.1).trans rfl
          have d1 : w4.cell? ⟨p + 1, 1, none⟩ = some (.int .i64 0) := (cell_of_heap HX4.out.2.2.1).trans rfl
          have d2 : w4.cell? ⟨p + 1, 2, none⟩ = some (.bool false) := (cell_of_heap HX4.out.2.2.1).trans rfl
          have e0 := thaw (k := 0) HX4.out.2.2.1
          have e1 := thaw (k := 1) HX4.out.2.2.1
          have e2 := thaw (k := 2) HX4.out.2.2.1
          have hl3 := heap_lt HX4.out.2.2.1
          go_region
          all_goals
            go_wp2_with fail
            refine bodyPost_ret (results_tmp_row rfl _ _ (p + 1) 46 _ (0, 0) _ rfl HF.out.1 Try.underlying46 rfl (by kernel_rfl)) rfl ?_
            rw [HN2.out]
            exact ⟨_, _, rfl, (fun h => by cases h), ha', rfl, HF.out.2⟩
        case inr =>
          rw [ho] at hr3 ⊢
          obtain rfl : a3 = a' + 1 := drop_inj ha3 hn hr3.symm
          have HNX := Lib.hid (fun (h : md.mayBe b[a'] k = true) => md.num_go f k ⟨b.drop a', false⟩ b[a'] (b.drop (a' + 1)) (by rw [hnx, if_pos h]))
          have HST := Lib.hid (fun (h : ¬ md.mayBe b[a'] k = true) => md.num_stop f k ⟨b.drop a', false⟩ (b.drop a') (by rw [hnx, if_neg h]))
          have HMB : Hid (md.mayBe b[a'] k = if k = 0 then true else if k = 9 then decide (b[a'].toNat = 1) else decide (b[a'].toNat ≠ 0)) := Lib.hid rfl
          have hc := b[a'].toNat_lt
          generalize md.mayBe b[a'] k = mb at *
          generalize b[a'].toNat = c at *
          have hc8 : c < 256 := hc
          clear hr3 hnx ho hc HC HONE HINR
          dsimp only
          have hba := below_one w3 (.cells #[.slice o b.length cap, .int .i64 ((a' : Int) + 1), .bool true] 46)
          have hbw : Below w.heap.size w (w3.alloc (.cells #[.slice o b.length cap, .int .i64 ((a' : Int) + 1), .bool true] 46)) := (HX2.out.2.2.trans (hb3.mono HX2.out.2.2.size)).trans (hba.mono (HX2.out.2.2.trans (hb3.mono HX2.out.2.2.size)).size)
          have hp4 := (hba.block _ (heap_lt ((hb3.block _ (heap_lt HX2.out.1)).trans HX2.out.1))).trans ((hb3.block _ (heap_lt HX2.out.1)).trans HX2.out.1)
          have hz4 := (hba.block _ (heap_lt ((hb3.block _ (heap_lt HX2.out.2.1)).trans HX2.out.2.1))).trans ((hb3.block _ (heap_lt HX2.out.2.1)).trans HX2.out.2.1)
          have hpq : p + 1 < w3.heap.size := heap_lt ((hb3.block _ (heap_lt HX2.out.2.1)).trans HX2.out.2.1)
          have HX4 := Lib.hid (And.intro (heap_alloc_new w3 (.cells #[.slice o b.length cap, .int .i64 ((a' : Int) + 1), .bool true] 46)) (And.intro hp4 (And.intro hz4 hbw)))
          clear hba hbw hp4 hz4 hb3 HX2 k0 k1 k2 f0 f1 f2 hlp
          go_upto_region 11 with fail
          generalize w3.alloc (.cells #[.slice o b.length cap, .int .i64 ((a' : Int) + 1), .bool true] 46) = w4 at *
          generalize w3.heap.size = q at *
          have q0 : w4.cell? ⟨q, 0, none⟩ = some (.slice o b.length cap) := (cell_of_heap HX4.out.1).trans rfl
          have q1 : w4.cell? ⟨q, 1, none⟩ = some (.int .i64 ((a' : Int) + 1)) := (cell_of_heap HX4.out.1).trans rfl
          have q2 : w4.cell? ⟨q, 2, none⟩ = some (.bool true) := (cell_of_heap HX4.out.1).trans rfl
          have hlq := heap_lt HX4.out.1
          by_cases hz : c = 0 ∧ 0 < k
          case pos =>
            obtain ⟨hz1, hz2⟩ := hz
            have hzi : (0 : Int) < (k : Int) := by omega
            have HN2 : Hid (N.2 = ⟨b.drop a', true⟩) := Lib.hid (HA.out.2.2.1.symm.trans (HST.out (by rw [HMB.out, if_neg (by omega)]; split <;> simp <;> omega)))
            clear HNX HST HMB HA
            subst hz1
            have s1 : (w4.setCell ⟨p, 2, none⟩ (.bool false)).heap[p]? = some (.cells #[.slice o b.length cap, .int .i64 (a' : Nat), .bool false] 46) := heap_setCell_same w4 p 2 _ _ (.bool false) HX4.out.2.1
            have s2 := heap_set_other w4 ⟨p, 2, none⟩ (.bool false) (show p + 1 ≠ p by omega) HX4.out.2.2.1
            have s3 : Below w.heap.size w (w4.setCell ⟨p, 2, none⟩ (.bool false)) := HX4.out.2.2.2.setCell (by rw [HP.out]; exact Nat.le_refl _) _
            have HF := Lib.hid (fill_one s2 s3 (by rw [HP.out]; omega) (.slice o b.length cap) (.int .i64 (a' : Nat)) (.bool false))
            have HS := Lib.hid (And.intro s1 s2)
            have f2 := thaw (k := 2) HX4.out.2.1
            have k2 : w4.cell? ⟨p, 2, none⟩ = some (.bool true) := (cell_of_heap HX4.out.2.1).trans rfl
            have hlp := heap_lt HX4.out.2.1
            clear s1 s2 s3
            go_upto_region 13 with fail
            clear q0 q1 q2 hlq HX4 f2 k2 hlp
            generalize w4.setCell ⟨p, 2, none⟩ (.bool false) = w5 at *
            have k0 : w5.cell? ⟨p, 0, none⟩ = some (.slice o b.length cap) := (cell_of_heap HS.out.1).trans rfl
            have k1 : w5.cell? ⟨p, 1, none⟩ = some (.int .i64 (a' : Nat)) := (cell_of_heap HS.out.1).trans rfl
            have k2 : w5.cell? ⟨p, 2, none⟩ = some (.bool false) := (cell_of_heap HS.out.1).trans rfl
            have hlp := heap_lt HS.out.1
            have d0 : w5.cell? ⟨p + 1, 0, none⟩ = some (.slice none 0 0) := (cell_of_heap HS.out.2).trans rfl
            have d1 : w5.cell? ⟨p + 1, 1, none⟩ = some (.int .i64 0) := (cell_of_heap HS.out.2).trans rfl
            have d2 : w5.cell? ⟨p + 1, 2, none⟩ = some (.bool false) := (cell_of_heap HS.out.2).trans rfl
            have e0 := thaw (k := 0) HS.out.2
            have e1 := thaw (k := 1) HS.out.2
            have e2 := thaw (k := 2) HS.out.2
            have hl3 := heap_lt HS.out.2
            go_region
            all_goals
              go_wp2_with fail
              refine bodyPost_ret (results_tmp_row rfl _ _ (p + 1) 46 _ (0, 0) _ rfl HF.out.1 Try.underlying46 rfl (by kernel_rfl)) rfl ?_
              rw [HN2.out]
              exact ⟨_, _, rfl, (fun h => by cases h), ha', rfl, HF.out.2⟩
          case neg =>
            have hmb : mb = true := by
              rw [HMB.out]
              split
              · rfl
              · split
                · have := h9x (by assumption)
                  simp
                  omega
                · simp
                  omega
            have HNG := Lib.hid (HNX.out hmb)
            clear HNX HST HMB hmb
            have hzz : (c = 0 ∧ k = 0) ∨ (c ≠ 0 ∧ ((c : Int) == 0) = false) := by
              by_cases e : c = 0
              · exact .inl ⟨e, by omega⟩
              · exact .inr ⟨e, by simp; omega⟩
            have HPB := Lib.hid (pow_bound (k := k) (u := u) (x := c % 128) (by omega) HA.out.1 (by omega) (fun h => by have := h9x h; omega))
            have s1 := store3 HX4.out.2.1 (.slice o b.length cap) (.int .i64 ((a' + 1 : Nat) : Int)) (.bool true)
            have s2 : (setMod w4 p (.slice o b.length cap) (.int .i64 ((a' + 1 : Nat) : Int)) (.bool true)).heap[p + 1]? = some stZ := (setMod_far w4 p _ _ _ (p + 1) (by omega)).trans HX4.out.2.2.1
            have s3 : Below w.heap.size w (setMod w4 p (.slice o b.length cap) (.int .i64 ((a' + 1 : Nat) : Int)) (.bool true)) := ((HX4.out.2.2.2.setCell (by rw [HP.out]; exact Nat.le_refl _) _).setCell (by rw [HP.out]; exact Nat.le_refl _) _).setCell (by rw [HP.out]; exact Nat.le_refl _) _
            have HX5 : Hid ((((w4.setCell ⟨p, 0, none⟩ (.slice o b.length cap)).setCell ⟨p, 1, none⟩ (.int .i64 ((a' : Int) + 1))).setCell ⟨p, 2, none⟩ (.bool true)).heap[p]? = some (stO o b.length cap (a' + 1) (!false)) ∧ (((w4.setCell ⟨p, 0, none⟩ (.slice o b.length cap)).setCell ⟨p, 1, none⟩ (.int .i64 ((a' : Int) + 1))).setCell ⟨p, 2, none⟩ (.bool true)).heap[p + 1]? = some stZ ∧ Below w.heap.size w (((w4.setCell ⟨p, 0, none⟩ (.slice o b.length cap)).setCell ⟨p, 1, none⟩ (.int .i64 ((a' : Int) + 1))).setCell ⟨p, 2, none⟩ (.bool true))) := Lib.hid ⟨s1, s2, s3⟩
            have k0 : w4.cell? ⟨p, 0, none⟩ = some (.slice o b.length cap) := (cell_of_heap HX4.out.2.1).trans rfl
            have k1 : w4.cell? ⟨p, 1, none⟩ = some (.int .i64 (a' : Nat)) := (cell_of_heap HX4.out.2.1).trans rfl
            have k2 : w4.cell? ⟨p, 2, none⟩ = some (.bool true) := (cell_of_heap HX4.out.2.1).trans rfl
            have f0 := thaw (k := 0) HX4.out.2.1
            have f1 := thaw (k := 1) HX4.out.2.1
            have f2 := thaw (k := 2) HX4.out.2.1
            have hlp := heap_lt HX4.out.2.1
            clear s1 s2 s3 hz
            rcases hzz with ⟨hz1, hz2⟩ | ⟨hz1, hz2⟩
            all_goals
              go_upto_region 17 with fail
              clear q0 q1 q2 hlq k0 k1 k2 f0 f1 f2 hlp HX4
              generalize hw5 : ((w4.setCell ⟨p, 0, none⟩ (.slice o b.length cap)).setCell ⟨p, 1, none⟩ (.int .i64 ((a' : Int) + 1))).setCell ⟨p, 2, none⟩ (.bool true) = w5 at *
              clear hw5
              go_loopg [9, 10] k (fun gg s9 s10 wr => ∃ j pj : Nat, s9 = u64V pj ∧ s10 = .int .i64 j ∧ j ≤ k ∧ k - j ≤ gg ∧ wr = w5 ∧ Hid (pj = c % 128 * 128 ^ j))
              case atStart => exact ⟨0, c % 128, by first | rfl | go_num, rfl, Nat.zero_le _, by omega, rfl, Lib.hid (by simp)⟩
              case round =>
                obtain ⟨j, pj, rfl, rfl, hj, hgj, hwr, HPJ⟩ := hrel
                replace hwr := hwr.symm
                subst hwr
                by_cases hjk : j < k
                case pos =>
                  have hji : (j : Int) < (k : Int) := by omega
                  have hpb : pj * 128 < 18446744073709551616 := by
                    have h1 := HPJ.out
                    have h2 : c % 128 * 128 ^ (j + 1) ≤ c % 128 * 128 ^ k := Nat.mul_le_mul_left _ (Nat.pow_le_pow_right (by decide) hjk)
                    have h3 := HPB.out.1
                    rw [Nat.pow_succ, ← Nat.mul_assoc, ← h1] at h2
                    omega
                  try (exfalso; omega)
                  all_goals
                    go_wp2_with fail
                    go_roundg (k - (j + 1))
                    case measure => omega
                    case rel => exact ⟨j + 1, pj * 128, congrArg (Value.int .u64) (by omega), by go_num, by omega, Nat.le_refl _, rfl, Lib.hid (by rw [HPJ.out, Nat.pow_succ, Nat.mul_assoc])⟩
                case neg =>
                  obtain rfl : j = k := by omega
                  have hub : u + pj < 18446744073709551616 := by rw [HPJ.out]; exact HPB.out.1
                  have HU : Hid (u + pj < 128 ^ (j + 1)) := Lib.hid (by rw [HPJ.out]; exact HPB.out.2)
                  by_cases h128 : c < 128
                  case pos =>
                    have HN2 : Hid (N.2 = ⟨b.drop (a' + 1), false⟩) := Lib.hid (HA.out.2.2.1.symm.trans (by rw [HNG.out, if_pos h128]))
                    have HN1 : Hid (N.2.bad = false → u + pj = N.1) := Lib.hid (fun h => by
                      have := HA.out.2.2.2 h
                      rw [HNG.out, if_pos h128] at this
                      rw [HPJ.out]
                      exact this)
                    have h128i : (c : Int) < 128 := by omega
                    clear HNG HPB HPJ HA HU
                    go_upto_region 22 with fail
                    rw [show (u : Int) + (pj : Int) = ((u + pj : Nat) : Int) by omega]
                    generalize u + pj = u2 at *
                    have k0 : w5.cell? ⟨p, 0, none⟩ = some (.slice o b.length cap) := (cell_of_heap HX5.out.1).trans rfl
                    have k1 : w5.cell? ⟨p, 1, none⟩ = some (.int .i64 ((a' + 1 : Nat) : Int)) := (cell_of_heap HX5.out.1).trans rfl
                    have k2 : w5.cell? ⟨p, 2, none⟩ = some (.bool true) := (cell_of_heap HX5.out.1).trans rfl
                    have f0 := thaw (k := 0) HX5.out.1
                    have f1 := thaw (k := 1) HX5.out.1
                    have f2 := thaw (k := 2) HX5.out.1
                    have hlp := heap_lt HX5.out.1
                    have HF := Lib.hid (fill_one HX5.out.2.1 HX5.out.2.2 (by rw [HP.out]; omega) (.slice o b.length cap) (.int .i64 ((a' + 1 : Nat) : Int)) (.bool true))
                    by_cases hu1 : u2 % 2 = 1
                    · have e9 : (((u2 : Int) % 2) == 1) = true := by simp; omega
                      have HV : Hid (-((u2 : Int) / 2) - 1 = md.unf u2) := Lib.hid (by unfold md.unf; split <;> omega)
                      clear hu1
                      go_upto_region 23 with fail
                      have d0 : w5.cell? ⟨p + 1, 0, none⟩ = some (.slice none 0 0) := (cell_of_heap HX5.out.2.1).trans rfl
                      have d1 : w5.cell? ⟨p + 1, 1, none⟩ = some (.int .i64 0) := (cell_of_heap HX5.out.2.1).trans rfl
                      have d2 : w5.cell? ⟨p + 1, 2, none⟩ = some (.bool false) := (cell_of_heap HX5.out.2.1).trans rfl
                      have e0 := thaw (k := 0) HX5.out.2.1
                      have e1 := thaw (k := 1) HX5.out.2.1
                      have e2 := thaw (k := 2) HX5.out.2.1
                      have hl3 := heap_lt HX5.out.2.1
                      go_region
                      all_goals
                        go_wp2_with fail
                        refine bodyPost_ret (results_tmp_row rfl _ _ (p + 1) 46 _ (0, 0) _ rfl HF.out.1 Try.underlying46 rfl (by kernel_rfl)) rfl ?_
                        refine ⟨_, md.unf u2, ?_, fun h => ?_, hn, ?_, HF.out.2⟩
                        · rw [← HV.out, HN2.out]
                          rfl
                        · exact congrArg md.unf (HN1.out h)
                        · rw [HN2.out]
                    · have e9 : (((u2 : Int) % 2) == 1) = false := by simp; omega
                      have HV : Hid ((u2 : Int) / 2 = md.unf u2) := Lib.hid (by unfold md.unf; split <;> omega)
                      clear hu1
                      go_upto_region 24 with fail
                      have d0 : w5.cell? ⟨p + 1, 0, none⟩ = some (.slice none 0 0) := (cell_of_heap HX5.out.2.1).trans rfl
                      have d1 : w5.cell? ⟨p + 1, 1, none⟩ = some (.int .i64 0) := (cell_of_heap HX5.out.2.1).trans rfl
                      have d2 : w5.cell? ⟨p + 1, 2, none⟩ = some (.bool false) := (cell_of_heap HX5.out.2.1).trans rfl
                      have e0 := thaw (k := 0) HX5.out.2.1
                      have e1 := thaw (k := 1) HX5.out.2.1
                      have e2 := thaw (k := 2) HX5.out.2.1
                      have hl3 := heap_lt HX5.out.2.1
                      go_region
                      all_goals
                        go_wp2_with fail
                        refine bodyPost_ret (results_tmp_row rfl _ _ (p + 1) 46 _ (0, 0) _ rfl HF.out.1 Try.underlying46 rfl (by kernel_rfl)) rfl ?_
                        refine ⟨_, md.unf u2, ?_, fun h => ?_, hn, ?_, HF.out.2⟩
                        · rw [← HV.out, HN2.out]
                          rfl
                        · exact congrArg md.unf (HN1.out h)
                        · rw [HN2.out]
                  case neg =>
                    have HR : Hid ((md.num f (j + 1) ⟨b.drop (a' + 1), false⟩).2 = N.2 ∧ (N.2.bad = false → u + pj + (md.num f (j + 1) ⟨b.drop (a' + 1), false⟩).1 = N.1)) := Lib.hid ⟨by
                      have := HA.out.2.2.1
                      rw [HNG.out, if_neg h128] at this
                      exact this, fun h => by
                      have := HA.out.2.2.2 h
                      rw [HNG.out, if_neg h128] at this
                      rw [HPJ.out, Nat.add_assoc]
                      exact this⟩
                    have h128i : ¬ (c : Int) < 128 := by omega
                    clear HNG HPB HPJ HA
                    try (exfalso; omega)
                    all_goals
                      go_wp2_with fail
                      go_roundg f
                      case measure => omega
                      case rel => exact ⟨j + 1, f, u + pj, a' + 1, false, congrArg (Value.int .u64) (by omega), by go_num, by omega, Nat.le_refl _, hn, hub, Lib.hid ⟨HU.out, HX5.out, HR.out.1, HR.out.2⟩⟩
end Go.Proofs.Ytibpbnffennmeaa
