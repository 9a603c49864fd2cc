/- BusFull. -/
import Derived.Test.YtmhlkdhinklnfaaBuAlive
import Derived.Deep.RegionHeld3
import Derived.Laws.IdiomStrings
namespace Go.Proofs.Ytmhlkdhinklnfaa
open Go.RowKit
namespace bu
/-- j events were sent to slot 3 -/
structure FuS (t : ByteArray) (S : Nat → Slot) (j : Nat) : Prop where
  on : (S 2).on = true
  len : (S 2).queue.length = min j 16
  dr : (S 2).dropped = ((j - 16 : Nat) : Int)
  fst : 0 < j → ∃ l, (S 2).queue = ⟨0, 0, 0, cut t⟩ :: l
  oth : ∀ i, i < 4 → i ≠ 2 → (S i).on = false
theorem FuS.openA {t : ByteArray} {S : Nat → Slot} {j : Nat} (h : FuS t S j) : bu.openA S 3 = some 2 := if_pos ⟨by omega, by omega, h.on⟩
theorem FuS.start (t : ByteArray) : ∃ S1, openR S0 3 = (0, S1) ∧ FuS t S1 0 := by
  refine ⟨_, rfl, rfl, rfl, rfl, by omega, fun i h h2 => ?_⟩
  have hs : i = 0 ∨ i = 1 ∨ i = 3 := by omega
  rcases hs with rfl | rfl | rfl <;> rfl
theorem FuS.send {t : ByteArray} {S : Nat → Slot} {j : Nat} (h : FuS t S j) : ∃ S', sendR S 3 ⟨0, (j : Int), 0, t⟩ = (if j < 16 then 0 else 3, S') ∧ FuS t S' (j + 1) := by
  unfold sendR
  rw [h.openA]
  simp only
  by_cases hj : j < 16
  · have hl : ¬ (S 2).queue.length = 16 := by rw [h.len]; omega
    have hp : putS (S 2) ⟨0, (j : Int), 0, t⟩ = (true, { S 2 with queue := (S 2).queue ++ [⟨0, (j : Int), 0, cut t⟩] }) := by unfold putS; rw [if_neg hl]
    rw [hp]
    refine ⟨_, by rw [if_pos hj, if_pos rfl], ?_, ?_, ?_, fun _ => ?_, fun i hi h2 => by rw [upd_other _ _ h2]; exact h.oth i hi h2⟩
    all_goals rw [upd_same]
    · exact h.on
    · simp only [List.length_append, List.length_singleton, h.len]; omega
    · simp only [h.dr]; omega
    · by_cases h0 : 0 < j
      · obtain ⟨l, hl⟩ := h.fst h0
        exact ⟨l ++ [⟨0, (j : Int), 0, cut t⟩], by simp only [hl, List.cons_append]⟩
      · obtain rfl : j = 0 := by omega
        have : (S 2).queue = [] := List.eq_nil_of_length_eq_zero (by rw [h.len]; rfl)
        exact ⟨[], by simp only [this]; rfl⟩
  · have hl : (S 2).queue.length = 16 := by rw [h.len]; omega
    have hp : putS (S 2) ⟨0, (j : Int), 0, t⟩ = (false, { S 2 with dropped := (S 2).dropped + 1 }) := by unfold putS; rw [if_pos hl]
    rw [hp]
    refine ⟨_, by rw [if_neg hj, if_neg (by simp)], ?_, ?_, ?_, fun _ => ?_, fun i hi h2 => by rw [upd_other _ _ h2]; exact h.oth i hi h2⟩
    all_goals rw [upd_same]
    · exact h.on
    · simp only [h.len]; omega
    · simp only [h.dr]; omega
    · exact h.fst (by omega)
theorem FuS.lenA {t : ByteArray} {S : Nat → Slot} {j : Nat} (h : FuS t S j) : ((bu.lenA S 3 : Nat) : Int) = ((min j 16 : Nat) : Int) := by
  unfold bu.lenA
  rw [h.openA]
  simp only [h.len]
theorem FuS.dropA {t : ByteArray} {S : Nat → Slot} {j : Nat} (h : FuS t S j) : bu.dropA S 3 = ((j - 16 : Nat) : Int) := by
  unfold bu.dropA
  rw [h.openA]
  exact h.dr
/-- what Take gives, and that there is room -/
theorem FuS.take {t : ByteArray} {S : Nat → Slot} {j : Nat} (h : FuS t S j) : ∃ S', takeR S 3 = (if 0 < j then some ⟨0, 0, 0, cut t⟩ else none, S') ∧ ∀ e : Ev, ∃ S2, sendR S' 3 e = (0, S2) ∧ (S2 2).on = true ∧ ∀ i, i < 4 → i ≠ 2 → (S2 i).on = false := by
  have key : ∀ (S' : Nat → Slot), (S' 2).on = true → (S' 2).queue.length < 16 → (∀ i, i < 4 → i ≠ 2 → (S' i).on = false) → ∀ e : Ev, ∃ S2, sendR S' 3 e = (0, S2) ∧ (S2 2).on = true ∧ ∀ i, i < 4 → i ≠ 2 → (S2 i).on = false := fun S' h1 h2 h3 e => by
    have ho : bu.openA S' 3 = some 2 := if_pos ⟨by omega, by omega, h1⟩
    unfold sendR
    rw [ho]
    simp only
    have hp : putS (S' 2) e = (true, { S' 2 with queue := (S' 2).queue ++ [{ e with text := cut e.text }] }) := by unfold putS; rw [if_neg (by omega)]
    rw [hp]
    refine ⟨_, by rw [if_pos rfl], by rw [upd_same]; exact h1, fun i hi h2 => by rw [upd_other _ _ h2]; exact h3 i hi h2⟩
  unfold takeR
  rw [h.openA]
  simp only
  by_cases h0 : 0 < j
  · obtain ⟨l, hl⟩ := h.fst h0
    have hlen := h.len
    rw [hl] at hlen ⊢
    rw [List.length_cons] at hlen
    simp only
    refine ⟨_, by rw [if_pos h0], key _ (by rw [upd_same]; exact h.on) (by rw [upd_same]; simp only; omega) fun i hi h2 => by rw [upd_other _ _ h2]; exact h.oth i hi h2⟩
  · obtain rfl : j = 0 := by omega
    have : (S 2).queue = [] := List.eq_nil_of_length_eq_zero (by rw [h.len]; rfl)
    rw [this]
    exact ⟨S, by rw [if_neg h0], key S h.on (by rw [this]; decide) h.oth⟩
/-- shut and opened again -/
theorem fu_again {S : Nat → Slot} (h1 : (S 2).on = true) (h3 : ∀ i, i < 4 → i ≠ 2 → (S i).on = false) : ∃ S1 S2, shutR S 3 = (0, S1) ∧ openR S1 3 = (0, S2) ∧ ((bu.lenA S2 3 : Nat) : Int) = 0 ∧ bu.dropA S2 3 = 0 ∧ readyU S2 4 = [] := by
  have ho : bu.openA S 3 = some 2 := if_pos ⟨by omega, by omega, h1⟩
  refine ⟨upd S 2 Slot.zero, upd (upd S 2 Slot.zero) 2 { Slot.zero with on := true }, by unfold shutR; rw [ho], rfl, rfl, rfl, ?_⟩
  have hz : ∀ j : Nat, j < 4 → bu.lenA (upd (upd S 2 Slot.zero) 2 { Slot.zero with on := true }) ((j : Int) + 1) = 0 := fun j b => by
    unfold bu.lenA
    split
    · rfl
    · rename_i i hi
      have hi' := openA_lt hi
      obtain rfl : i = j := by have := hi'.2.2; omega
      by_cases e : i = 2
      · subst e; rw [upd_same]; rfl
      · have := hi'.2.1
        rw [upd_other _ _ e, upd_other _ _ e, h3 i b e] at this
        cases this
  have z0 := hz 0 (by omega)
  have z1 := hz 1 (by omega)
  have z2 := hz 2 (by omega)
  have z3 := hz 3 (by omega)
  unfold readyU readyU readyU readyU readyU
  rw [if_neg (by omega), if_neg (by omega), if_neg (by omega), if_neg (by omega)]
end bu
theorem cut_by (t : ByteArray) : ∃ K : Nat, (if (64 : Int) < (t.size : Int) then (64 : Int) else (t.size : Int)) = K ∧ K ≤ t.size ∧ t.extract 0 K = bu.cut t := by
  unfold bu.cut
  by_cases h : 64 < t.size
  · exact ⟨64, by rw [if_pos (by omega)]; rfl, by omega, by rw [if_pos h]⟩
  · exact ⟨t.size, by rw [if_neg (by omega)], Nat.le_refl _, by rw [if_neg h]; simp⟩
theorem i64_and63 (n : Int) : bits .and .i64 n 63 = n % 64 := by
  have h63 : (BitVec.ofInt 64 63).toNat = 2 ^ 6 - 1 := by decide
  have key : (BitVec.ofInt 64 n &&& BitVec.ofInt 64 63).toNat = (n % ((2 ^ 64 : Nat) : Int)).toNat % 2 ^ 6 := by
    rw [BitVec.toNat_and, BitVec.toNat_ofInt, h63, Nat.and_two_pow_sub_one_eq_mod]
  show IntKind.i64.wrap ((BitVec.ofInt 64 n &&& BitVec.ofInt 64 63).toNat : Nat) = n % 64
  rw [key, IntKind.wrap_i64]
  omega
set_option maxRecDepth 100000 in
set_option maxHeartbeats 3200000 in
theorem busFull_any (n : Int) (text : ByteArray) (w : World) : Calls Try.prog 6 #[.int .i64 n, .string text] w fun e w' => e = .returned (.bool true) ∧ Below w.heap.size w w' := by
  have HN := Lib.hid (newP_any w)
  go_enter Try.func6, Try.ntmps6
  go_wp2_with fail
  refine HN.out.mono ?_
  rintro e x ⟨rfl, hx⟩
  have G0 := Lib.hid (hx ▸ BG.new w w w.heap.size (Below.refl _ _) (Nat.le_refl _))
  have HC := Lib.hid (alive_any x)
  clear hx HN
  go_wp2_with fail
  refine HC.out.mono ?_
  rintro e x1 ⟨rfl, hb⟩
  have G1 := Lib.hid (G0.out.below hb)
  have HC := Lib.hid (send_g G1.out (by decide) 3 ⟨0, 0, 0, ⟨#[]⟩⟩ (5, bu.S0) rfl)
  clear hb G0
  go_wp2_with fail
  refine HC.out.mono ?_
  rintro e x2 ⟨rfl, g⟩
  obtain ⟨S1, hS1, hF⟩ := bu.FuS.start text
  have G2 := Lib.hid g
  have HC := Lib.hid (open_g G2.out 3 _ hS1)
  clear g G1 hS1
  go_wp2_with fail
  refine HC.out.mono ?_
  rintro e x3 ⟨rfl, g⟩
  have G3 := Lib.hid (And.intro g hF)
  clear g G2 hF HC
  go_wp2_with fail
  obtain ⟨N, hN, h63⟩ : ∃ N : Nat, bits .and .i64 n 63 = (N : Int) ∧ N ≤ 63 := ⟨(n % 64).toNat, by rw [i64_and63]; omega, by omega⟩
  rw [hN]
  clear hN
  go_loopg [6] N (fun gg s6 wr => ∃ (j : Nat) (T : Nat → bu.Slot), s6 = .int .i64 j ∧ j ≤ N ∧ N - j ≤ gg ∧ Hid (BG w.heap.size w w.heap.size [] T (0 + 1 + (j : Int)) wr ∧ bu.FuS text T j))
  case atStart => exact ⟨0, S1, rfl, Nat.zero_le _, Nat.le_refl _, G3⟩
  case round =>
    obtain ⟨j, T, rfl, hj, hgg, HT⟩ := hrel
    by_cases hj2 : (j : Int) < (N : Int)
    · obtain ⟨T', hs, hf⟩ := HT.out.2.send
      have HC := Lib.hid (send_g HT.out.1 (by omega) 3 ⟨0, (j : Int), 0, text⟩ _ hs)
      have HF := Lib.hid hf
      clear hs hf
      by_cases hj16 : j < 16
      · rw [if_pos hj16] at HC
        have h16 : (j : Int) < 16 := by omega
        go_wp2_with fail
        refine HC.out.mono ?_
        rintro e wn ⟨rfl, g⟩
        have HT' := Lib.hid (And.intro g HF.out)
        clear g HC HT HF
        go_wp2_with fail
        go_roundg (N - (j + 1))
        case measure => omega
        case rel => exact ⟨j + 1, _, by simp, by omega, Nat.le_refl _, Lib.hid ⟨by have := HT'.out.1; rwa [show (0 : Int) + 1 + (j : Int) + 1 = 0 + 1 + ((j + 1 : Nat) : Int) by omega] at this, HT'.out.2⟩⟩
      · rw [if_neg hj16] at HC
        have h16 : ¬ (j : Int) < 16 := by omega
        go_wp2_with fail
        refine HC.out.mono ?_
        rintro e wn ⟨rfl, g⟩
        have HT' := Lib.hid (And.intro g HF.out)
        clear g HC HT HF
        go_wp2_with fail
        go_roundg (N - (j + 1))
        case measure => omega
        case rel => exact ⟨j + 1, _, by simp, by omega, Nat.le_refl _, Lib.hid ⟨by have := HT'.out.1; rwa [show (0 : Int) + 1 + (j : Int) + 1 = 0 + 1 + ((j + 1 : Nat) : Int) by omega] at this, HT'.out.2⟩⟩
    · obtain rfl : j = N := by omega
      clear hgg hj G3
      have H63 := Lib.hid h63
      have hw3 : j = 0 ∨ (0 < j ∧ j ≤ 16) ∨ 16 < j := by omega
      rcases hw3 with hc | ⟨hc, hd⟩ | hc
      · have rm : ∀ (ts : Array TypeId) (t : TypeId) (W : World), (Builtin.min_ ts t #[.int .i64 (j : Int), .int .i64 16]).run Try.prog W = .ok (.int .i64 (j : Int)) W := fun ts t W => by rw [run_min_int2, if_neg (by omega)]
        have rx : ∀ (ts : Array TypeId) (t : TypeId) (W : World), (Builtin.max_ ts t #[.int .i64 ((j : Int) - 16), .int .i64 0]).run Try.prog W = .ok (.int .i64 0) W := fun ts t W => by rw [run_max_int2, if_pos (by omega)]
        have HC1 := Lib.hid (len_g HT.out.1 3 _ (by rw [HT.out.2.lenA]; omega : ((bu.lenA T 3 : Nat) : Int) = (j : Int)))
        have HC2 := Lib.hid (drop_g HT.out.1 3 _ (by rw [HT.out.2.dropA]; omega : bu.dropA T 3 = 0))
        obtain ⟨T2, hs2, hs3⟩ := HT.out.2.take
        rw [if_neg (by omega)] at hs2
        obtain ⟨T3, hs4, hon, hoth⟩ := hs3 ⟨0, 99, 0, ⟨#[]⟩⟩
        obtain ⟨T4, T5, hs5, hs6, hs7, hs8, hs9⟩ := bu.fu_again hon hoth
        have HS := Lib.hid (And.intro hs2 (And.intro hs4 (And.intro hs5 (And.intro hs6 (And.intro hs7 (And.intro hs8 hs9))))))
        clear hs2 hs3 hs4 hs5 hs6 hs7 hs8 hs9 hon hoth
        have HJ := Lib.hid hc
        clear hc
        go_wp2_with fail
        clear hj2
        refine HC1.out.mono ?_
        rintro e w' ⟨rfl, hw⟩
        replace hw := hw.symm
        subst hw
        go_wp2_with fail
        refine HC2.out.mono ?_
        rintro e w' ⟨rfl, hw⟩
        replace hw := hw.symm
        subst hw
        have HC := Lib.hid (take_g HT.out.1 3 _ HS.out.1)
        clear HC1 HC2
        go_wp2_with fail
        refine HC.out.mono ?_
        rintro e w5 ⟨rfl, g⟩
        have G5 := Lib.hid g
        clear g HC HT rm rx
        dsimp only [Option.getD, Option.isSome]
        have GX := G5.out.box (evO bu.evZ)
        go_upto_region 16 with fail
        obtain ⟨W, hW⟩ : ∃ W, w5.alloc (evO bu.evZ) = W := ⟨_, rfl⟩
        rw [hW] at GX
        change Code.wp _ _ _ _ (w5.alloc (evO bu.evZ))
        rw [hW]
        clear hW
        generalize w5.heap.size = be at *
        have hbx : W.heap[be]? = some (evO bu.evZ) := GX.here
        have x1 : W.cell? ⟨be, 1, none⟩ = some (.int .i64 0) := (cell_of_heap hbx).trans rfl
        have x3 : W.cell? ⟨be, 3, none⟩ = some (.string ⟨#[]⟩) := (cell_of_heap hbx).trans rfl
        have G6 := Lib.hid (GX.drop.below (below_dN (Below.refl _ _) 1 : Below W.heap.size W W.drew))
        clear hbx GX G5
        have hj0 : ¬ 0 < j := by have := HJ.out; omega
        clear h63
        have hSD : W.drew.cell? ⟨be, 1, none⟩ = some (.int .i64 0) ∧ W.drew.cell? ⟨be, 3, none⟩ = some (.string ⟨#[]⟩) ∧ Below W.heap.size W W.drew := ⟨x1, x3, below_dN (Below.refl _ _) 1⟩
        refine wp_region_noPanic ?_
        refine wp_region_held_drew (S := (fun X => X.cell? ⟨be, 1, none⟩ = some (.int .i64 0) ∧ X.cell? ⟨be, 3, none⟩ = some (.string ⟨#[]⟩) ∧ Below W.heap.size W X)) (by kernel_rfl) ?_ (fun hHeld => ?_)
        · ((try dsimp only); (with_reducible exact hSD))
        refine wpAnyH_take (i := 0) (v := ?_) rfl (by kernel_rfl) (by kernel_rfl) (by kernel_rfl) (fun _ _ _ h => h) (Or.inl ⟨by rfl, ?_⟩) (by assumption) ?_
        rotate_left
        · ((intro w hSw); (try dsimp only at hSw); (try simp only [List.getElem_toArray, List.getElem_cons_zero]); (go_simp); (try with_reducible rfl))
        (try simp only [Act.put, List.setIfInBounds_toArray, List.set_cons_zero, List.set_cons_succ, List.getElem_toArray, List.getElem_cons_zero])
        refine wpAnyH_take (i := 1) (v := ?_) rfl (by kernel_rfl) (by kernel_rfl) (by kernel_rfl) (fun _ _ _ h => h) (Or.inl ⟨by rfl, ?_⟩) (by assumption) ?_
        rotate_left
        · ((intro w hSw); (try dsimp only at hSw); (try simp only [List.getElem_toArray, List.getElem_cons_succ, List.getElem_cons_zero]); (go_simp); (try with_reducible rfl))
        (try simp only [Act.put, List.setIfInBounds_toArray, List.set_cons_zero, List.set_cons_succ, List.getElem_toArray, List.getElem_cons_succ, List.getElem_cons_zero])
        refine wpAnyH_take (i := 2) (v := ?_) rfl (by kernel_rfl) (by kernel_rfl) (by kernel_rfl) (fun _ _ _ h => h) (Or.inl ⟨by rfl, ?_⟩) (by assumption) ?_
        rotate_left
        · ((intro w hSw); (try dsimp only at hSw); (try simp only [List.getElem_toArray, List.getElem_cons_succ, List.getElem_cons_zero]); (go_simp); (try with_reducible rfl))
        (try simp only [Act.put, List.setIfInBounds_toArray, List.set_cons_zero, List.set_cons_succ, List.getElem_toArray, List.getElem_cons_succ, List.getElem_cons_zero])
        refine wpAnyH_take (i := 3) (v := ?_) rfl (by kernel_rfl) (by kernel_rfl) (by kernel_rfl) (fun _ _ _ h => h) (Or.inl ⟨by rfl, ?_⟩) (by assumption) ?_
        rotate_left
        · ((intro w hSw); (try dsimp only at hSw); (try simp only [List.getElem_toArray, List.getElem_cons_succ, List.getElem_cons_zero]); (go_simp); (try with_reducible rfl))
        (try simp only [Act.put, List.setIfInBounds_toArray, List.set_cons_zero, List.set_cons_succ, List.getElem_toArray, List.getElem_cons_succ, List.getElem_cons_zero])
        refine wpAnyH_take (i := 4) (v := ?_) rfl (by kernel_rfl) (by kernel_rfl) (by kernel_rfl) (fun _ _ _ h => h) (Or.inl ⟨by rfl, ?_⟩) (by assumption) ?_
        rotate_left
        · ((intro w hSw); (try dsimp only at hSw); (try simp only [List.getElem_toArray, List.getElem_cons_succ, List.getElem_cons_zero]); (go_simp); (try with_reducible rfl))
        (try simp only [Act.put, List.setIfInBounds_toArray, List.set_cons_zero, List.set_cons_succ, List.getElem_toArray, List.getElem_cons_succ, List.getElem_cons_zero])
        refine wpAnyH_take (i := 5) (v := ?_) rfl (by kernel_rfl) (by kernel_rfl) (by kernel_rfl) (fun _ _ _ h => h) (Or.inl ⟨by rfl, ?_⟩) (by assumption) ?_
        rotate_left
        · ((intro w hSw); (try dsimp only at hSw); (try simp only [List.getElem_toArray, List.getElem_cons_succ, List.getElem_cons_zero]); (go_simp); (try with_reducible rfl))
        (try simp only [Act.put, List.setIfInBounds_toArray, List.set_cons_zero, List.set_cons_succ, List.getElem_toArray, List.getElem_cons_succ, List.getElem_cons_zero])
        refine wpAnyH_take (i := 6) (v := ?_) rfl (by kernel_rfl) (by kernel_rfl) (by kernel_rfl) (fun _ _ _ h => h) (Or.inl ⟨by rfl, ?_⟩) (by assumption) ?_
        rotate_left
        · ((intro w hSw); (try dsimp only at hSw); (try simp only [List.getElem_toArray, List.getElem_cons_succ, List.getElem_cons_zero]); (go_simp); (try with_reducible rfl))
        (try simp only [Act.put, List.setIfInBounds_toArray, List.set_cons_zero, List.set_cons_succ, List.getElem_toArray, List.getElem_cons_succ, List.getElem_cons_zero])
        refine wpAnyH_take (i := 7) (v := undef) rfl (by kernel_rfl) (by kernel_rfl) (by kernel_rfl) (fun _ _ _ h => h) (Or.inr ⟨by rfl, rfl⟩) (by assumption) ?_
        (try simp only [Act.put, List.setIfInBounds_toArray, List.set_cons_zero, List.set_cons_succ, List.getElem_toArray, List.getElem_cons_succ, List.getElem_cons_zero])
        refine wpAnyH_take (i := 8) (v := undef) rfl (by kernel_rfl) (by kernel_rfl) (by kernel_rfl) (fun _ _ _ h => h) (Or.inr ⟨by rfl, rfl⟩) (by assumption) ?_
        (try simp only [Act.put, List.setIfInBounds_toArray, List.set_cons_zero, List.set_cons_succ, List.getElem_toArray, List.getElem_cons_succ, List.getElem_cons_zero])
        refine wpAnyH_take (i := 9) (v := undef) rfl (by kernel_rfl) (by kernel_rfl) (by kernel_rfl) (fun _ _ _ h => h) (Or.inr ⟨by rfl, rfl⟩) (by assumption) ?_
        (try simp only [Act.put, List.setIfInBounds_toArray, List.set_cons_zero, List.set_cons_succ, List.getElem_toArray, List.getElem_cons_succ, List.getElem_cons_zero])
        refine wpAnyH_take (i := 10) (v := undef) rfl (by kernel_rfl) (by kernel_rfl) (by kernel_rfl) (fun _ _ _ h => h) (Or.inr ⟨by rfl, rfl⟩) (by assumption) ?_
        (try simp only [Act.put, List.setIfInBounds_toArray, List.set_cons_zero, List.set_cons_succ, List.getElem_toArray, List.getElem_cons_succ, List.getElem_cons_zero])
        refine wpAnyH_take (i := 11) (v := undef) rfl (by kernel_rfl) (by kernel_rfl) (by kernel_rfl) (fun _ _ _ h => h) (Or.inr ⟨by rfl, rfl⟩) (by assumption) ?_
        (try simp only [Act.put, List.setIfInBounds_toArray, List.set_cons_zero, List.set_cons_succ, List.getElem_toArray, List.getElem_cons_succ, List.getElem_cons_zero])
        refine wpAnyH_take (i := 12) (v := undef) rfl (by kernel_rfl) (by kernel_rfl) (by kernel_rfl) (fun _ _ _ h => h) (Or.inr ⟨by rfl, rfl⟩) (by assumption) ?_
        (try simp only [Act.put, List.setIfInBounds_toArray, List.set_cons_zero, List.set_cons_succ, List.getElem_toArray, List.getElem_cons_succ, List.getElem_cons_zero])
        refine wpAnyH_take (i := 13) (v := undef) rfl (by kernel_rfl) (by kernel_rfl) (by kernel_rfl) (fun _ _ _ h => h) (Or.inr ⟨by rfl, rfl⟩) (by assumption) ?_
        (try simp only [Act.put, List.setIfInBounds_toArray, List.set_cons_zero, List.set_cons_succ, List.getElem_toArray, List.getElem_cons_succ, List.getElem_cons_zero])
        refine wpAnyH_take (i := 14) (v := undef) rfl (by kernel_rfl) (by kernel_rfl) (by kernel_rfl) (fun _ _ _ h => h) (Or.inr ⟨by rfl, rfl⟩) (by assumption) ?_
        (try simp only [Act.put, List.setIfInBounds_toArray, List.set_cons_zero, List.set_cons_succ, List.getElem_toArray, List.getElem_cons_succ, List.getElem_cons_zero])
        refine wpAnyH_take (i := 15) (v := undef) rfl (by kernel_rfl) (by kernel_rfl) (by kernel_rfl) (fun _ _ _ h => h) (Or.inr ⟨by rfl, rfl⟩) (by assumption) ?_
        (try simp only [Act.put, List.setIfInBounds_toArray, List.set_cons_zero, List.set_cons_succ, List.getElem_toArray, List.getElem_cons_succ, List.getElem_cons_zero])
        refine wpAnyH_take (i := 16) (v := undef) rfl (by kernel_rfl) (by kernel_rfl) (by kernel_rfl) (fun _ _ _ h => h) (Or.inr ⟨by rfl, rfl⟩) (by assumption) ?_
        (try simp only [Act.put, List.setIfInBounds_toArray, List.set_cons_zero, List.set_cons_succ, List.getElem_toArray, List.getElem_cons_succ, List.getElem_cons_zero])
        refine wpAnyH_take (i := 17) (v := undef) rfl (by kernel_rfl) (by kernel_rfl) (by kernel_rfl) (fun _ _ _ h => h) (Or.inr ⟨by rfl, rfl⟩) (by assumption) ?_
        (try simp only [Act.put, List.setIfInBounds_toArray, List.set_cons_zero, List.set_cons_succ, List.getElem_toArray, List.getElem_cons_succ, List.getElem_cons_zero])
        refine wpAnyH_take (i := 18) (v := undef) rfl (by kernel_rfl) (by kernel_rfl) (by kernel_rfl) (fun _ _ _ h => h) (Or.inr ⟨by rfl, rfl⟩) (by assumption) ?_
        (try simp only [Act.put, List.setIfInBounds_toArray, List.set_cons_zero, List.set_cons_succ, List.getElem_toArray, List.getElem_cons_succ, List.getElem_cons_zero])
        refine wpAnyH_take (i := 19) (v := undef) rfl (by kernel_rfl) (by kernel_rfl) (by kernel_rfl) (fun _ _ _ h => h) (Or.inr ⟨by rfl, rfl⟩) (by assumption) ?_
        (try simp only [Act.put, List.setIfInBounds_toArray, List.set_cons_zero, List.set_cons_succ, List.getElem_toArray, List.getElem_cons_succ, List.getElem_cons_zero])
        refine wpAnyH_take (i := 20) (v := ?_) rfl (by kernel_rfl) (by kernel_rfl) (by kernel_rfl) (fun _ _ _ h => h) (Or.inl ⟨by rfl, ?_⟩) (by assumption) ?_
        rotate_left
        · ((intro w hSw); (try dsimp only at hSw); (try simp only [List.getElem_toArray, List.getElem_cons_succ, List.getElem_cons_zero]); (go_simp); (try with_reducible rfl))
        (try simp only [Act.put, List.setIfInBounds_toArray, List.set_cons_zero, List.set_cons_succ, List.getElem_toArray, List.getElem_cons_succ, List.getElem_cons_zero])
        refine wpAnyH_take (i := 21) (v := ?_) rfl (by kernel_rfl) (by kernel_rfl) (by kernel_rfl) (fun _ _ _ h => h) (Or.inl ⟨by rfl, ?_⟩) (by assumption) ?_
        rotate_left
        · ((intro w hSw); (try dsimp only at hSw); (try simp only [List.getElem_toArray, List.getElem_cons_succ, List.getElem_cons_zero]); (go_simp); (try with_reducible rfl))
        (try simp only [Act.put, List.setIfInBounds_toArray, List.set_cons_zero, List.set_cons_succ, List.getElem_toArray, List.getElem_cons_succ, List.getElem_cons_zero])
        refine wpAnyH_done (by kernel_rfl) ?_ _
        refine NoPanic.normal ?_
        clear hSD
        have HC := Lib.hid (send_g G6.out (by have := H63.out; omega) 3 ⟨0, 99, 0, ⟨#[]⟩⟩ _ HS.out.2.1)
        go_wp2_with fail
        refine HC.out.mono ?_
        rintro e w6 ⟨rfl, g⟩
        have G7 := Lib.hid g
        clear g HC G6
        have HC := Lib.hid (shut_g G7.out (by have := H63.out; omega) 3 _ HS.out.2.2.1)
        go_wp2_with fail
        refine HC.out.mono ?_
        rintro e w7 ⟨rfl, g⟩
        have G8 := Lib.hid g
        clear g HC G7
        have HC := Lib.hid (open_g G8.out 3 _ HS.out.2.2.2.1)
        go_wp2_with fail
        refine HC.out.mono ?_
        rintro e w8 ⟨rfl, g⟩
        have G9 := Lib.hid g
        clear g HC G8
        have HC1 := Lib.hid (len_g G9.out 3 _ HS.out.2.2.2.2.1)
        have HC2 := Lib.hid (drop_g G9.out 3 _ HS.out.2.2.2.2.2.1)
        have HC3 := Lib.hid (ready_g G9.out _ HS.out.2.2.2.2.2.2)
        go_wp2_with fail
        refine HC1.out.mono ?_
        rintro e w' ⟨rfl, hw⟩
        replace hw := hw.symm
        subst hw
        go_wp2_with fail
        refine HC2.out.mono ?_
        rintro e w' ⟨rfl, hw⟩
        replace hw := hw.symm
        subst hw
        go_wp2_with fail
        refine HC3.out.mono ?_
        rintro e w9 ⟨V9, rfl, hr9, hb9⟩
        obtain ⟨o9, c9, rfl⟩ : ∃ o c, V9 = .slice o 0 c := own_slice hr9
        have GE := Lib.hid (G9.out.below hb9)
        clear hr9 hb9 G9 HC1 HC2 HC3
        go_wp2_with fail
        go_ret
        exact ⟨rfl, GE.out.bel⟩
      · have rm : ∀ (ts : Array TypeId) (t : TypeId) (W : World), (Builtin.min_ ts t #[.int .i64 (j : Int), .int .i64 16]).run Try.prog W = .ok (.int .i64 (j : Int)) W := fun ts t W => by rw [run_min_int2, if_neg (by omega)]
        have rx : ∀ (ts : Array TypeId) (t : TypeId) (W : World), (Builtin.max_ ts t #[.int .i64 ((j : Int) - 16), .int .i64 0]).run Try.prog W = .ok (.int .i64 0) W := fun ts t W => by 
            rw [run_max_int2]
            split
            · rfl
            · rw [show (j : Int) - 16 = 0 by omega]
        have HC1 := Lib.hid (len_g HT.out.1 3 _ (by rw [HT.out.2.lenA]; omega : ((bu.lenA T 3 : Nat) : Int) = (j : Int)))
        have HC2 := Lib.hid (drop_g HT.out.1 3 _ (by rw [HT.out.2.dropA]; omega : bu.dropA T 3 = 0))
        obtain ⟨T2, hs2, hs3⟩ := HT.out.2.take
        rw [if_pos (by omega)] at hs2
        obtain ⟨T3, hs4, hon, hoth⟩ := hs3 ⟨0, 99, 0, ⟨#[]⟩⟩
        obtain ⟨T4, T5, hs5, hs6, hs7, hs8, hs9⟩ := bu.fu_again hon hoth
        have HS := Lib.hid (And.intro hs2 (And.intro hs4 (And.intro hs5 (And.intro hs6 (And.intro hs7 (And.intro hs8 hs9))))))
        clear hs2 hs3 hs4 hs5 hs6 hs7 hs8 hs9 hon hoth
        have HJ := Lib.hid (And.intro hc hd)
        clear hc hd
        go_wp2_with fail
        clear hj2
        refine HC1.out.mono ?_
        rintro e w' ⟨rfl, hw⟩
        replace hw := hw.symm
        subst hw
        go_wp2_with fail
        refine HC2.out.mono ?_
        rintro e w' ⟨rfl, hw⟩
        replace hw := hw.symm
        subst hw
        have HC := Lib.hid (take_g HT.out.1 3 _ HS.out.1)
        clear HC1 HC2
        go_wp2_with fail
        refine HC.out.mono ?_
        rintro e w5 ⟨rfl, g⟩
        have G5 := Lib.hid g
        clear g HC HT rm rx
        dsimp only [Option.getD, Option.isSome]
        have GX := G5.out.box (evO ⟨0, 0, 0, bu.cut text⟩)
        go_upto_region 16 with fail
        obtain ⟨W, hW⟩ : ∃ W, w5.alloc (evO ⟨0, 0, 0, bu.cut text⟩) = W := ⟨_, rfl⟩
        rw [hW] at GX
        change Code.wp _ _ _ _ (w5.alloc (evO ⟨0, 0, 0, bu.cut text⟩))
        rw [hW]
        clear hW
        generalize w5.heap.size = be at *
        have hbx : W.heap[be]? = some (evO ⟨0, 0, 0, bu.cut text⟩) := GX.here
        have x1 : W.cell? ⟨be, 1, none⟩ = some (.int .i64 0) := (cell_of_heap hbx).trans rfl
        have x3 : W.cell? ⟨be, 3, none⟩ = some (.string (bu.cut text)) := (cell_of_heap hbx).trans rfl
        have G6 := Lib.hid (GX.drop.below (below_dN (Below.refl _ _) 1 : Below W.heap.size W W.drew))
        clear hbx GX G5
        have hj0 : 0 < j := by have := HJ.out; omega
        clear h63
        obtain ⟨K, hK, hKle, hcut⟩ := cut_by text
        have rm : ∀ (ts : Array TypeId) (t : TypeId) (W : World), (Builtin.min_ ts t #[.int .i64 (text.size : Int), .int .i64 64]).run Try.prog W = .ok (.int .i64 (K : Int)) W := fun ts t W => by rw [run_min_int2, hK]
        have rs : ∀ (W : World), (Instr.slice 9 (.string text) none (some (.int .i64 (K : Int))) none).run Try.prog W = .ok (.string (bu.cut text)) W := fun W => by rw [run_slice_string_h (P := Try.prog) (w := W) (ht := Try.underlying9) (kh := .i64) (h0 := by omega) (h2 := by omega), ← hcut]; rfl
        clear hK hcut
        have hSD : W.drew.cell? ⟨be, 1, none⟩ = some (.int .i64 0) ∧ W.drew.cell? ⟨be, 3, none⟩ = some (.string (bu.cut text)) ∧ Below W.heap.size W W.drew := ⟨x1, x3, below_dN (Below.refl _ _) 1⟩
        refine wp_region_noPanic ?_
        refine wp_region_held_drew (S := (fun X => X.cell? ⟨be, 1, none⟩ = some (.int .i64 0) ∧ X.cell? ⟨be, 3, none⟩ = some (.string (bu.cut text)) ∧ Below W.heap.size W X)) (by kernel_rfl) ?_ (fun hHeld => ?_)
        · ((try dsimp only); (with_reducible exact hSD))
        refine wpAnyH_take (i := 0) (v := ?_) rfl (by kernel_rfl) (by kernel_rfl) (by kernel_rfl) (fun _ _ _ h => h) (Or.inl ⟨by rfl, ?_⟩) (by assumption) ?_
        rotate_left
        · ((intro w hSw); (try dsimp only at hSw); (try simp only [List.getElem_toArray, List.getElem_cons_zero]); (go_simp); (try with_reducible rfl))
        (try simp only [Act.put, List.setIfInBounds_toArray, List.set_cons_zero, List.set_cons_succ, List.getElem_toArray, List.getElem_cons_zero])
        refine wpAnyH_take (i := 1) (v := ?_) rfl (by kernel_rfl) (by kernel_rfl) (by kernel_rfl) (fun _ _ _ h => h) (Or.inl ⟨by rfl, ?_⟩) (by assumption) ?_
        rotate_left
        · ((intro w hSw); (try dsimp only at hSw); (try simp only [List.getElem_toArray, List.getElem_cons_succ, List.getElem_cons_zero]); (go_simp); (try with_reducible rfl))
        (try simp only [Act.put, List.setIfInBounds_toArray, List.set_cons_zero, List.set_cons_succ, List.getElem_toArray, List.getElem_cons_succ, List.getElem_cons_zero])
        refine wpAnyH_take (i := 2) (v := ?_) rfl (by kernel_rfl) (by kernel_rfl) (by kernel_rfl) (fun _ _ _ h => h) (Or.inl ⟨by rfl, ?_⟩) (by assumption) ?_
        rotate_left
        · ((intro w hSw); (try dsimp only at hSw); (try simp only [List.getElem_toArray, List.getElem_cons_succ, List.getElem_cons_zero]); (go_simp); (try with_reducible rfl))
        (try simp only [Act.put, List.setIfInBounds_toArray, List.set_cons_zero, List.set_cons_succ, List.getElem_toArray, List.getElem_cons_succ, List.getElem_cons_zero])
        refine wpAnyH_take (i := 3) (v := ?_) rfl (by kernel_rfl) (by kernel_rfl) (by kernel_rfl) (fun _ _ _ h => h) (Or.inl ⟨by rfl, ?_⟩) (by assumption) ?_
        rotate_left
        · ((intro w hSw); (try dsimp only at hSw); (try simp only [List.getElem_toArray, List.getElem_cons_succ, List.getElem_cons_zero]); (go_simp); (try with_reducible rfl))
        (try simp only [Act.put, List.setIfInBounds_toArray, List.set_cons_zero, List.set_cons_succ, List.getElem_toArray, List.getElem_cons_succ, List.getElem_cons_zero])
        refine wpAnyH_take (i := 4) (v := ?_) rfl (by kernel_rfl) (by kernel_rfl) (by kernel_rfl) (fun _ _ _ h => h) (Or.inl ⟨by rfl, ?_⟩) (by assumption) ?_
        rotate_left
        · ((intro w hSw); (try dsimp only at hSw); (try simp only [List.getElem_toArray, List.getElem_cons_succ, List.getElem_cons_zero]); (go_simp); (try with_reducible rfl))
        (try simp only [Act.put, List.setIfInBounds_toArray, List.set_cons_zero, List.set_cons_succ, List.getElem_toArray, List.getElem_cons_succ, List.getElem_cons_zero])
        refine wpAnyH_take (i := 5) (v := ?_) rfl (by kernel_rfl) (by kernel_rfl) (by kernel_rfl) (fun _ _ _ h => h) (Or.inl ⟨by rfl, ?_⟩) (by assumption) ?_
        rotate_left
        · ((intro w hSw); (try dsimp only at hSw); (try simp only [List.getElem_toArray, List.getElem_cons_succ, List.getElem_cons_zero]); (go_simp); (try with_reducible rfl))
        (try simp only [Act.put, List.setIfInBounds_toArray, List.set_cons_zero, List.set_cons_succ, List.getElem_toArray, List.getElem_cons_succ, List.getElem_cons_zero])
        refine wpAnyH_take (i := 6) (v := ?_) rfl (by kernel_rfl) (by kernel_rfl) (by kernel_rfl) (fun _ _ _ h => h) (Or.inl ⟨by rfl, ?_⟩) (by assumption) ?_
        rotate_left
        · ((intro w hSw); (try dsimp only at hSw); (try simp only [List.getElem_toArray, List.getElem_cons_succ, List.getElem_cons_zero]); (go_simp); (try with_reducible rfl))
        (try simp only [Act.put, List.setIfInBounds_toArray, List.set_cons_zero, List.set_cons_succ, List.getElem_toArray, List.getElem_cons_succ, List.getElem_cons_zero])
        refine wpAnyH_take (i := 7) (v := ?_) rfl (by kernel_rfl) (by kernel_rfl) (by kernel_rfl) (fun _ _ _ h => h) (Or.inl ⟨by rfl, ?_⟩) (by assumption) ?_
        rotate_left
        · ((intro w hSw); (try dsimp only at hSw); (try simp only [List.getElem_toArray, List.getElem_cons_succ, List.getElem_cons_zero]); (go_simp); (try with_reducible rfl))
        (try simp only [Act.put, List.setIfInBounds_toArray, List.set_cons_zero, List.set_cons_succ, List.getElem_toArray, List.getElem_cons_succ, List.getElem_cons_zero])
        refine wpAnyH_take (i := 8) (v := ?_) rfl (by kernel_rfl) (by kernel_rfl) (by kernel_rfl) (fun _ _ _ h => h) (Or.inl ⟨by rfl, ?_⟩) (by assumption) ?_
        rotate_left
        · ((intro w hSw); (try dsimp only at hSw); (try simp only [List.getElem_toArray, List.getElem_cons_succ, List.getElem_cons_zero]); (go_simp); (try with_reducible rfl))
        (try simp only [Act.put, List.setIfInBounds_toArray, List.set_cons_zero, List.set_cons_succ, List.getElem_toArray, List.getElem_cons_succ, List.getElem_cons_zero])
        refine wpAnyH_take (i := 9) (v := ?_) rfl (by kernel_rfl) (by kernel_rfl) (by kernel_rfl) (fun _ _ _ h => h) (Or.inl ⟨by rfl, ?_⟩) (by assumption) ?_
        rotate_left
        · ((intro w hSw); (try dsimp only at hSw); (try simp only [List.getElem_toArray, List.getElem_cons_succ, List.getElem_cons_zero]); (go_simp); (try with_reducible rfl))
        (try simp only [Act.put, List.setIfInBounds_toArray, List.set_cons_zero, List.set_cons_succ, List.getElem_toArray, List.getElem_cons_succ, List.getElem_cons_zero])
        refine wpAnyH_take (i := 10) (v := ?_) rfl (by kernel_rfl) (by kernel_rfl) (by kernel_rfl) (fun _ _ _ h => h) (Or.inl ⟨by rfl, ?_⟩) (by assumption) ?_
        rotate_left
        · ((intro w hSw); (try dsimp only at hSw); (try simp only [List.getElem_toArray, List.getElem_cons_succ, List.getElem_cons_zero]); (go_simp); (try with_reducible rfl))
        (try simp only [Act.put, List.setIfInBounds_toArray, List.set_cons_zero, List.set_cons_succ, List.getElem_toArray, List.getElem_cons_succ, List.getElem_cons_zero])
        refine wpAnyH_take (i := 11) (v := ?_) rfl (by kernel_rfl) (by kernel_rfl) (by kernel_rfl) (fun _ _ _ h => h) (Or.inl ⟨by rfl, ?_⟩) (by assumption) ?_
        rotate_left
        · ((intro w hSw); (try dsimp only at hSw); (try simp only [List.getElem_toArray, List.getElem_cons_succ, List.getElem_cons_zero]); (go_simp); (try with_reducible rfl))
        (try simp only [Act.put, List.setIfInBounds_toArray, List.set_cons_zero, List.set_cons_succ, List.getElem_toArray, List.getElem_cons_succ, List.getElem_cons_zero])
        refine wpAnyH_take (i := 12) (v := ?_) rfl (by kernel_rfl) (by kernel_rfl) (by kernel_rfl) (fun _ _ _ h => h) (Or.inl ⟨by rfl, ?_⟩) (by assumption) ?_
        rotate_left
        · ((intro w hSw); (try dsimp only at hSw); (try simp only [List.getElem_toArray, List.getElem_cons_succ, List.getElem_cons_zero]); (go_simp); (try with_reducible rfl))
        (try simp only [Act.put, List.setIfInBounds_toArray, List.set_cons_zero, List.set_cons_succ, List.getElem_toArray, List.getElem_cons_succ, List.getElem_cons_zero])
        refine wpAnyH_take (i := 13) (v := ?_) rfl (by kernel_rfl) (by kernel_rfl) (by kernel_rfl) (fun _ _ _ h => h) (Or.inl ⟨by rfl, ?_⟩) (by assumption) ?_
        rotate_left
        · ((intro w hSw); (try dsimp only at hSw); (try simp only [List.getElem_toArray, List.getElem_cons_succ, List.getElem_cons_zero]); (go_simp); (try with_reducible rfl))
        (try simp only [Act.put, List.setIfInBounds_toArray, List.set_cons_zero, List.set_cons_succ, List.getElem_toArray, List.getElem_cons_succ, List.getElem_cons_zero])
        refine wpAnyH_take (i := 14) (v := ?_) rfl (by kernel_rfl) (by kernel_rfl) (by kernel_rfl) (fun _ _ _ h => h) (Or.inl ⟨by rfl, ?_⟩) (by assumption) ?_
        rotate_left
        · ((intro w hSw); (try dsimp only at hSw); (try simp only [List.getElem_toArray, List.getElem_cons_succ, List.getElem_cons_zero]); (go_simp); (try with_reducible rfl))
        (try simp only [Act.put, List.setIfInBounds_toArray, List.set_cons_zero, List.set_cons_succ, List.getElem_toArray, List.getElem_cons_succ, List.getElem_cons_zero])
        refine wpAnyH_take (i := 15) (v := ?_) rfl (by kernel_rfl) (by kernel_rfl) (by kernel_rfl) (fun _ _ _ h => h) (Or.inl ⟨by rfl, ?_⟩) (by assumption) ?_
        rotate_left
        · ((intro w hSw); (try dsimp only at hSw); (try simp only [List.getElem_toArray, List.getElem_cons_succ, List.getElem_cons_zero]); (go_simp); (try with_reducible rfl))
        (try simp only [Act.put, List.setIfInBounds_toArray, List.set_cons_zero, List.set_cons_succ, List.getElem_toArray, List.getElem_cons_succ, List.getElem_cons_zero])
        refine wpAnyH_take (i := 16) (v := ?_) rfl (by kernel_rfl) (by kernel_rfl) (by kernel_rfl) (fun _ _ _ h => h) (Or.inl ⟨by rfl, ?_⟩) (by assumption) ?_
        rotate_left
        · ((intro w hSw); (try dsimp only at hSw); (try simp only [List.getElem_toArray, List.getElem_cons_succ, List.getElem_cons_zero]); (go_simp); (try with_reducible rfl))
        (try simp only [Act.put, List.setIfInBounds_toArray, List.set_cons_zero, List.set_cons_succ, List.getElem_toArray, List.getElem_cons_succ, List.getElem_cons_zero])
        refine wpAnyH_take (i := 17) (v := ?_) rfl (by kernel_rfl) (by kernel_rfl) (by kernel_rfl) (fun _ _ _ h => h) (Or.inl ⟨by rfl, ?_⟩) (by assumption) ?_
        rotate_left
        · ((intro w hSw); (try dsimp only at hSw); (try simp only [List.getElem_toArray, List.getElem_cons_succ, List.getElem_cons_zero]); (go_simp); (try with_reducible rfl))
        (try simp only [Act.put, List.setIfInBounds_toArray, List.set_cons_zero, List.set_cons_succ, List.getElem_toArray, List.getElem_cons_succ, List.getElem_cons_zero])
        refine wpAnyH_take (i := 18) (v := ?_) rfl (by kernel_rfl) (by kernel_rfl) (by kernel_rfl) (fun _ _ _ h => h) (Or.inl ⟨by rfl, ?_⟩) (by assumption) ?_
        rotate_left
        · ((intro w hSw); (try dsimp only at hSw); (try simp only [List.getElem_toArray, List.getElem_cons_succ, List.getElem_cons_zero]); (go_simp); (try with_reducible rfl))
        (try simp only [Act.put, List.setIfInBounds_toArray, List.set_cons_zero, List.set_cons_succ, List.getElem_toArray, List.getElem_cons_succ, List.getElem_cons_zero])
        refine wpAnyH_take (i := 19) (v := ?_) rfl (by kernel_rfl) (by kernel_rfl) (by kernel_rfl) (fun _ _ _ h => h) (Or.inl ⟨by rfl, ?_⟩) (by assumption) ?_
        rotate_left
        · ((intro w hSw); (try dsimp only at hSw); (try simp only [List.getElem_toArray, List.getElem_cons_succ, List.getElem_cons_zero]); (go_simp); (try with_reducible rfl))
        (try simp only [Act.put, List.setIfInBounds_toArray, List.set_cons_zero, List.set_cons_succ, List.getElem_toArray, List.getElem_cons_succ, List.getElem_cons_zero])
        refine wpAnyH_take (i := 20) (v := ?_) rfl (by kernel_rfl) (by kernel_rfl) (by kernel_rfl) (fun _ _ _ h => h) (Or.inl ⟨by rfl, ?_⟩) (by assumption) ?_
        rotate_left
        · ((intro w hSw); (try dsimp only at hSw); (try simp only [List.getElem_toArray, List.getElem_cons_succ, List.getElem_cons_zero]); (go_simp); (try with_reducible rfl))
        (try simp only [Act.put, List.setIfInBounds_toArray, List.set_cons_zero, List.set_cons_succ, List.getElem_toArray, List.getElem_cons_succ, List.getElem_cons_zero])
        refine wpAnyH_take (i := 21) (v := ?_) rfl (by kernel_rfl) (by kernel_rfl) (by kernel_rfl) (fun _ _ _ h => h) (Or.inl ⟨by rfl, ?_⟩) (by assumption) ?_
        rotate_left
        · ((intro w hSw); (try dsimp only at hSw); (try simp only [List.getElem_toArray, List.getElem_cons_succ, List.getElem_cons_zero]); (go_simp); (try with_reducible rfl))
        (try simp only [Act.put, List.setIfInBounds_toArray, List.set_cons_zero, List.set_cons_succ, List.getElem_toArray, List.getElem_cons_succ, List.getElem_cons_zero])
        refine wpAnyH_done (by kernel_rfl) ?_ _
        refine NoPanic.normal ?_
        clear hSD
        have HC := Lib.hid (send_g G6.out (by have := H63.out; omega) 3 ⟨0, 99, 0, ⟨#[]⟩⟩ _ HS.out.2.1)
        go_wp2_with fail
        refine HC.out.mono ?_
        rintro e w6 ⟨rfl, g⟩
        have G7 := Lib.hid g
        clear g HC G6
        have HC := Lib.hid (shut_g G7.out (by have := H63.out; omega) 3 _ HS.out.2.2.1)
        go_wp2_with fail
        refine HC.out.mono ?_
        rintro e w7 ⟨rfl, g⟩
        have G8 := Lib.hid g
        clear g HC G7
        have HC := Lib.hid (open_g G8.out 3 _ HS.out.2.2.2.1)
        go_wp2_with fail
        refine HC.out.mono ?_
        rintro e w8 ⟨rfl, g⟩
        have G9 := Lib.hid g
        clear g HC G8
        have HC1 := Lib.hid (len_g G9.out 3 _ HS.out.2.2.2.2.1)
        have HC2 := Lib.hid (drop_g G9.out 3 _ HS.out.2.2.2.2.2.1)
        have HC3 := Lib.hid (ready_g G9.out _ HS.out.2.2.2.2.2.2)
        go_wp2_with fail
        refine HC1.out.mono ?_
        rintro e w' ⟨rfl, hw⟩
        replace hw := hw.symm
        subst hw
        go_wp2_with fail
        refine HC2.out.mono ?_
        rintro e w' ⟨rfl, hw⟩
        replace hw := hw.symm
        subst hw
        go_wp2_with fail
        refine HC3.out.mono ?_
        rintro e w9 ⟨V9, rfl, hr9, hb9⟩
        obtain ⟨o9, c9, rfl⟩ : ∃ o c, V9 = .slice o 0 c := own_slice hr9
        have GE := Lib.hid (G9.out.below hb9)
        clear hr9 hb9 G9 HC1 HC2 HC3
        go_wp2_with fail
        go_ret
        exact ⟨rfl, GE.out.bel⟩
      · have rm : ∀ (ts : Array TypeId) (t : TypeId) (W : World), (Builtin.min_ ts t #[.int .i64 (j : Int), .int .i64 16]).run Try.prog W = .ok (.int .i64 16) W := fun ts t W => by rw [run_min_int2, if_pos (by omega)]
        have rx : ∀ (ts : Array TypeId) (t : TypeId) (W : World), (Builtin.max_ ts t #[.int .i64 ((j : Int) - 16), .int .i64 0]).run Try.prog W = .ok (.int .i64 ((j : Int) - 16)) W := fun ts t W => by rw [run_max_int2, if_neg (by omega)]
        have HC1 := Lib.hid (len_g HT.out.1 3 _ (by rw [HT.out.2.lenA]; omega : ((bu.lenA T 3 : Nat) : Int) = 16))
        have HC2 := Lib.hid (drop_g HT.out.1 3 _ (by rw [HT.out.2.dropA]; omega : bu.dropA T 3 = ((j : Int) - 16)))
        obtain ⟨T2, hs2, hs3⟩ := HT.out.2.take
        rw [if_pos (by omega)] at hs2
        obtain ⟨T3, hs4, hon, hoth⟩ := hs3 ⟨0, 99, 0, ⟨#[]⟩⟩
        obtain ⟨T4, T5, hs5, hs6, hs7, hs8, hs9⟩ := bu.fu_again hon hoth
        have HS := Lib.hid (And.intro hs2 (And.intro hs4 (And.intro hs5 (And.intro hs6 (And.intro hs7 (And.intro hs8 hs9))))))
        clear hs2 hs3 hs4 hs5 hs6 hs7 hs8 hs9 hon hoth
        have HJ := Lib.hid hc
        clear hc
        go_wp2_with fail
        clear hj2
        refine HC1.out.mono ?_
        rintro e w' ⟨rfl, hw⟩
        replace hw := hw.symm
        subst hw
        go_wp2_with fail
        refine HC2.out.mono ?_
        rintro e w' ⟨rfl, hw⟩
        replace hw := hw.symm
        subst hw
        have HC := Lib.hid (take_g HT.out.1 3 _ HS.out.1)
        clear HC1 HC2
        go_wp2_with fail
        refine HC.out.mono ?_
        rintro e w5 ⟨rfl, g⟩
        have G5 := Lib.hid g
        clear g HC HT rm rx
        dsimp only [Option.getD, Option.isSome]
        have GX := G5.out.box (evO ⟨0, 0, 0, bu.cut text⟩)
        go_upto_region 16 with fail
        obtain ⟨W, hW⟩ : ∃ W, w5.alloc (evO ⟨0, 0, 0, bu.cut text⟩) = W := ⟨_, rfl⟩
        rw [hW] at GX
        change Code.wp _ _ _ _ (w5.alloc (evO ⟨0, 0, 0, bu.cut text⟩))
        rw [hW]
        clear hW
        generalize w5.heap.size = be at *
        have hbx : W.heap[be]? = some (evO ⟨0, 0, 0, bu.cut text⟩) := GX.here
        have x1 : W.cell? ⟨be, 1, none⟩ = some (.int .i64 0) := (cell_of_heap hbx).trans rfl
        have x3 : W.cell? ⟨be, 3, none⟩ = some (.string (bu.cut text)) := (cell_of_heap hbx).trans rfl
        have G6 := Lib.hid (GX.drop.below (below_dN (Below.refl _ _) 1 : Below W.heap.size W W.drew))
        clear hbx GX G5
        have hj0 : 0 < j := by have := HJ.out; omega
        clear h63
        obtain ⟨K, hK, hKle, hcut⟩ := cut_by text
        have rm : ∀ (ts : Array TypeId) (t : TypeId) (W : World), (Builtin.min_ ts t #[.int .i64 (text.size : Int), .int .i64 64]).run Try.prog W = .ok (.int .i64 (K : Int)) W := fun ts t W => by rw [run_min_int2, hK]
        have rs : ∀ (W : World), (Instr.slice 9 (.string text) none (some (.int .i64 (K : Int))) none).run Try.prog W = .ok (.string (bu.cut text)) W := fun W => by rw [run_slice_string_h (P := Try.prog) (w := W) (ht := Try.underlying9) (kh := .i64) (h0 := by omega) (h2 := by omega), ← hcut]; rfl
        clear hK hcut
        have hSD : W.drew.cell? ⟨be, 1, none⟩ = some (.int .i64 0) ∧ W.drew.cell? ⟨be, 3, none⟩ = some (.string (bu.cut text)) ∧ Below W.heap.size W W.drew := ⟨x1, x3, below_dN (Below.refl _ _) 1⟩
        refine wp_region_noPanic ?_
        refine wp_region_held_drew (S := (fun X => X.cell? ⟨be, 1, none⟩ = some (.int .i64 0) ∧ X.cell? ⟨be, 3, none⟩ = some (.string (bu.cut text)) ∧ Below W.heap.size W X)) (by kernel_rfl) ?_ (fun hHeld => ?_)
        · ((try dsimp only); (with_reducible exact hSD))
        refine wpAnyH_take (i := 0) (v := ?_) rfl (by kernel_rfl) (by kernel_rfl) (by kernel_rfl) (fun _ _ _ h => h) (Or.inl ⟨by rfl, ?_⟩) (by assumption) ?_
        rotate_left
        · ((intro w hSw); (try dsimp only at hSw); (try simp only [List.getElem_toArray, List.getElem_cons_zero]); (go_simp); (try with_reducible rfl))
        (try simp only [Act.put, List.setIfInBounds_toArray, List.set_cons_zero, List.set_cons_succ, List.getElem_toArray, List.getElem_cons_zero])
        refine wpAnyH_take (i := 1) (v := ?_) rfl (by kernel_rfl) (by kernel_rfl) (by kernel_rfl) (fun _ _ _ h => h) (Or.inl ⟨by rfl, ?_⟩) (by assumption) ?_
        rotate_left
        · ((intro w hSw); (try dsimp only at hSw); (try simp only [List.getElem_toArray, List.getElem_cons_succ, List.getElem_cons_zero]); (go_simp); (try with_reducible rfl))
        (try simp only [Act.put, List.setIfInBounds_toArray, List.set_cons_zero, List.set_cons_succ, List.getElem_toArray, List.getElem_cons_succ, List.getElem_cons_zero])
        refine wpAnyH_take (i := 2) (v := ?_) rfl (by kernel_rfl) (by kernel_rfl) (by kernel_rfl) (fun _ _ _ h => h) (Or.inl ⟨by rfl, ?_⟩) (by assumption) ?_
        rotate_left
        · ((intro w hSw); (try dsimp only at hSw); (try simp only [List.getElem_toArray, List.getElem_cons_succ, List.getElem_cons_zero]); (go_simp); (try with_reducible rfl))
        (try simp only [Act.put, List.setIfInBounds_toArray, List.set_cons_zero, List.set_cons_succ, List.getElem_toArray, List.getElem_cons_succ, List.getElem_cons_zero])
        refine wpAnyH_take (i := 3) (v := ?_) rfl (by kernel_rfl) (by kernel_rfl) (by kernel_rfl) (fun _ _ _ h => h) (Or.inl ⟨by rfl, ?_⟩) (by assumption) ?_
        rotate_left
        · ((intro w hSw); (try dsimp only at hSw); (try simp only [List.getElem_toArray, List.getElem_cons_succ, List.getElem_cons_zero]); (go_simp); (try with_reducible rfl))
        (try simp only [Act.put, List.setIfInBounds_toArray, List.set_cons_zero, List.set_cons_succ, List.getElem_toArray, List.getElem_cons_succ, List.getElem_cons_zero])
        refine wpAnyH_take (i := 4) (v := ?_) rfl (by kernel_rfl) (by kernel_rfl) (by kernel_rfl) (fun _ _ _ h => h) (Or.inl ⟨by rfl, ?_⟩) (by assumption) ?_
        rotate_left
        · ((intro w hSw); (try dsimp only at hSw); (try simp only [List.getElem_toArray, List.getElem_cons_succ, List.getElem_cons_zero]); (go_simp); (try with_reducible rfl))
        (try simp only [Act.put, List.setIfInBounds_toArray, List.set_cons_zero, List.set_cons_succ, List.getElem_toArray, List.getElem_cons_succ, List.getElem_cons_zero])
        refine wpAnyH_take (i := 5) (v := ?_) rfl (by kernel_rfl) (by kernel_rfl) (by kernel_rfl) (fun _ _ _ h => h) (Or.inl ⟨by rfl, ?_⟩) (by assumption) ?_
        rotate_left
        · ((intro w hSw); (try dsimp only at hSw); (try simp only [List.getElem_toArray, List.getElem_cons_succ, List.getElem_cons_zero]); (go_simp); (try with_reducible rfl))
        (try simp only [Act.put, List.setIfInBounds_toArray, List.set_cons_zero, List.set_cons_succ, List.getElem_toArray, List.getElem_cons_succ, List.getElem_cons_zero])
        refine wpAnyH_take (i := 6) (v := ?_) rfl (by kernel_rfl) (by kernel_rfl) (by kernel_rfl) (fun _ _ _ h => h) (Or.inl ⟨by rfl, ?_⟩) (by assumption) ?_
        rotate_left
        · ((intro w hSw); (try dsimp only at hSw); (try simp only [List.getElem_toArray, List.getElem_cons_succ, List.getElem_cons_zero]); (go_simp); (try with_reducible rfl))
        (try simp only [Act.put, List.setIfInBounds_toArray, List.set_cons_zero, List.set_cons_succ, List.getElem_toArray, List.getElem_cons_succ, List.getElem_cons_zero])
        refine wpAnyH_take (i := 7) (v := ?_) rfl (by kernel_rfl) (by kernel_rfl) (by kernel_rfl) (fun _ _ _ h => h) (Or.inl ⟨by rfl, ?_⟩) (by assumption) ?_
        rotate_left
        · ((intro w hSw); (try dsimp only at hSw); (try simp only [List.getElem_toArray, List.getElem_cons_succ, List.getElem_cons_zero]); (go_simp); (try with_reducible rfl))
        (try simp only [Act.put, List.setIfInBounds_toArray, List.set_cons_zero, List.set_cons_succ, List.getElem_toArray, List.getElem_cons_succ, List.getElem_cons_zero])
        refine wpAnyH_take (i := 8) (v := ?_) rfl (by kernel_rfl) (by kernel_rfl) (by kernel_rfl) (fun _ _ _ h => h) (Or.inl ⟨by rfl, ?_⟩) (by assumption) ?_
        rotate_left
        · ((intro w hSw); (try dsimp only at hSw); (try simp only [List.getElem_toArray, List.getElem_cons_succ, List.getElem_cons_zero]); (go_simp); (try with_reducible rfl))
        (try simp only [Act.put, List.setIfInBounds_toArray, List.set_cons_zero, List.set_cons_succ, List.getElem_toArray, List.getElem_cons_succ, List.getElem_cons_zero])
        refine wpAnyH_take (i := 9) (v := ?_) rfl (by kernel_rfl) (by kernel_rfl) (by kernel_rfl) (fun _ _ _ h => h) (Or.inl ⟨by rfl, ?_⟩) (by assumption) ?_
        rotate_left
        · ((intro w hSw); (try dsimp only at hSw); (try simp only [List.getElem_toArray, List.getElem_cons_succ, List.getElem_cons_zero]); (go_simp); (try with_reducible rfl))
        (try simp only [Act.put, List.setIfInBounds_toArray, List.set_cons_zero, List.set_cons_succ, List.getElem_toArray, List.getElem_cons_succ, List.getElem_cons_zero])
        refine wpAnyH_take (i := 10) (v := ?_) rfl (by kernel_rfl) (by kernel_rfl) (by kernel_rfl) (fun _ _ _ h => h) (Or.inl ⟨by rfl, ?_⟩) (by assumption) ?_
        rotate_left
        · ((intro w hSw); (try dsimp only at hSw); (try simp only [List.getElem_toArray, List.getElem_cons_succ, List.getElem_cons_zero]); (go_simp); (try with_reducible rfl))
        (try simp only [Act.put, List.setIfInBounds_toArray, List.set_cons_zero, List.set_cons_succ, List.getElem_toArray, List.getElem_cons_succ, List.getElem_cons_zero])
        refine wpAnyH_take (i := 11) (v := ?_) rfl (by kernel_rfl) (by kernel_rfl) (by kernel_rfl) (fun _ _ _ h => h) (Or.inl ⟨by rfl, ?_⟩) (by assumption) ?_
        rotate_left
        · ((intro w hSw); (try dsimp only at hSw); (try simp only [List.getElem_toArray, List.getElem_cons_succ, List.getElem_cons_zero]); (go_simp); (try with_reducible rfl))
        (try simp only [Act.put, List.setIfInBounds_toArray, List.set_cons_zero, List.set_cons_succ, List.getElem_toArray, List.getElem_cons_succ, List.getElem_cons_zero])
        refine wpAnyH_take (i := 12) (v := ?_) rfl (by kernel_rfl) (by kernel_rfl) (by kernel_rfl) (fun _ _ _ h => h) (Or.inl ⟨by rfl, ?_⟩) (by assumption) ?_
        rotate_left
        · ((intro w hSw); (try dsimp only at hSw); (try simp only [List.getElem_toArray, List.getElem_cons_succ, List.getElem_cons_zero]); (go_simp); (try with_reducible rfl))
        (try simp only [Act.put, List.setIfInBounds_toArray, List.set_cons_zero, List.set_cons_succ, List.getElem_toArray, List.getElem_cons_succ, List.getElem_cons_zero])
        refine wpAnyH_take (i := 13) (v := ?_) rfl (by kernel_rfl) (by kernel_rfl) (by kernel_rfl) (fun _ _ _ h => h) (Or.inl ⟨by rfl, ?_⟩) (by assumption) ?_
        rotate_left
        · ((intro w hSw); (try dsimp only at hSw); (try simp only [List.getElem_toArray, List.getElem_cons_succ, List.getElem_cons_zero]); (go_simp); (try with_reducible rfl))
        (try simp only [Act.put, List.setIfInBounds_toArray, List.set_cons_zero, List.set_cons_succ, List.getElem_toArray, List.getElem_cons_succ, List.getElem_cons_zero])
        refine wpAnyH_take (i := 14) (v := ?_) rfl (by kernel_rfl) (by kernel_rfl) (by kernel_rfl) (fun _ _ _ h => h) (Or.inl ⟨by rfl, ?_⟩) (by assumption) ?_
        rotate_left
        · ((intro w hSw); (try dsimp only at hSw); (try simp only [List.getElem_toArray, List.getElem_cons_succ, List.getElem_cons_zero]); (go_simp); (try with_reducible rfl))
        (try simp only [Act.put, List.setIfInBounds_toArray, List.set_cons_zero, List.set_cons_succ, List.getElem_toArray, List.getElem_cons_succ, List.getElem_cons_zero])
        refine wpAnyH_take (i := 15) (v := ?_) rfl (by kernel_rfl) (by kernel_rfl) (by kernel_rfl) (fun _ _ _ h => h) (Or.inl ⟨by rfl, ?_⟩) (by assumption) ?_
        rotate_left
        · ((intro w hSw); (try dsimp only at hSw); (try simp only [List.getElem_toArray, List.getElem_cons_succ, List.getElem_cons_zero]); (go_simp); (try with_reducible rfl))
        (try simp only [Act.put, List.setIfInBounds_toArray, List.set_cons_zero, List.set_cons_succ, List.getElem_toArray, List.getElem_cons_succ, List.getElem_cons_zero])
        refine wpAnyH_take (i := 16) (v := ?_) rfl (by kernel_rfl) (by kernel_rfl) (by kernel_rfl) (fun _ _ _ h => h) (Or.inl ⟨by rfl, ?_⟩) (by assumption) ?_
        rotate_left
        · ((intro w hSw); (try dsimp only at hSw); (try simp only [List.getElem_toArray, List.getElem_cons_succ, List.getElem_cons_zero]); (go_simp); (try with_reducible rfl))
        (try simp only [Act.put, List.setIfInBounds_toArray, List.set_cons_zero, List.set_cons_succ, List.getElem_toArray, List.getElem_cons_succ, List.getElem_cons_zero])
        refine wpAnyH_take (i := 17) (v := ?_) rfl (by kernel_rfl) (by kernel_rfl) (by kernel_rfl) (fun _ _ _ h => h) (Or.inl ⟨by rfl, ?_⟩) (by assumption) ?_
        rotate_left
        · ((intro w hSw); (try dsimp only at hSw); (try simp only [List.getElem_toArray, List.getElem_cons_succ, List.getElem_cons_zero]); (go_simp); (try with_reducible rfl))
        (try simp only [Act.put, List.setIfInBounds_toArray, List.set_cons_zero, List.set_cons_succ, List.getElem_toArray, List.getElem_cons_succ, List.getElem_cons_zero])
        refine wpAnyH_take (i := 18) (v := ?_) rfl (by kernel_rfl) (by kernel_rfl) (by kernel_rfl) (fun _ _ _ h => h) (Or.inl ⟨by rfl, ?_⟩) (by assumption) ?_
        rotate_left
        · ((intro w hSw); (try dsimp only at hSw); (try simp only [List.getElem_toArray, List.getElem_cons_succ, List.getElem_cons_zero]); (go_simp); (try with_reducible rfl))
        (try simp only [Act.put, List.setIfInBounds_toArray, List.set_cons_zero, List.set_cons_succ, List.getElem_toArray, List.getElem_cons_succ, List.getElem_cons_zero])
        refine wpAnyH_take (i := 19) (v := ?_) rfl (by kernel_rfl) (by kernel_rfl) (by kernel_rfl) (fun _ _ _ h => h) (Or.inl ⟨by rfl, ?_⟩) (by assumption) ?_
        rotate_left
        · ((intro w hSw); (try dsimp only at hSw); (try simp only [List.getElem_toArray, List.getElem_cons_succ, List.getElem_cons_zero]); (go_simp); (try with_reducible rfl))
        (try simp only [Act.put, List.setIfInBounds_toArray, List.set_cons_zero, List.set_cons_succ, List.getElem_toArray, List.getElem_cons_succ, List.getElem_cons_zero])
        refine wpAnyH_take (i := 20) (v := ?_) rfl (by kernel_rfl) (by kernel_rfl) (by kernel_rfl) (fun _ _ _ h => h) (Or.inl ⟨by rfl, ?_⟩) (by assumption) ?_
        rotate_left
        · ((intro w hSw); (try dsimp only at hSw); (try simp only [List.getElem_toArray, List.getElem_cons_succ, List.getElem_cons_zero]); (go_simp); (try with_reducible rfl))
        (try simp only [Act.put, List.setIfInBounds_toArray, List.set_cons_zero, List.set_cons_succ, List.getElem_toArray, List.getElem_cons_succ, List.getElem_cons_zero])
        refine wpAnyH_take (i := 21) (v := ?_) rfl (by kernel_rfl) (by kernel_rfl) (by kernel_rfl) (fun _ _ _ h => h) (Or.inl ⟨by rfl, ?_⟩) (by assumption) ?_
        rotate_left
        · ((intro w hSw); (try dsimp only at hSw); (try simp only [List.getElem_toArray, List.getElem_cons_succ, List.getElem_cons_zero]); (go_simp); (try with_reducible rfl))
        (try simp only [Act.put, List.setIfInBounds_toArray, List.set_cons_zero, List.set_cons_succ, List.getElem_toArray, List.getElem_cons_succ, List.getElem_cons_zero])
        refine wpAnyH_done (by kernel_rfl) ?_ _
        refine NoPanic.normal ?_
        clear hSD
        have HC := Lib.hid (send_g G6.out (by have := H63.out; omega) 3 ⟨0, 99, 0, ⟨#[]⟩⟩ _ HS.out.2.1)
        go_wp2_with fail
        refine HC.out.mono ?_
        rintro e w6 ⟨rfl, g⟩
        have G7 := Lib.hid g
        clear g HC G6
        have HC := Lib.hid (shut_g G7.out (by have := H63.out; omega) 3 _ HS.out.2.2.1)
        go_wp2_with fail
        refine HC.out.mono ?_
        rintro e w7 ⟨rfl, g⟩
        have G8 := Lib.hid g
        clear g HC G7
        have HC := Lib.hid (open_g G8.out 3 _ HS.out.2.2.2.1)
        go_wp2_with fail
        refine HC.out.mono ?_
        rintro e w8 ⟨rfl, g⟩
        have G9 := Lib.hid g
        clear g HC G8
        have HC1 := Lib.hid (len_g G9.out 3 _ HS.out.2.2.2.2.1)
        have HC2 := Lib.hid (drop_g G9.out 3 _ HS.out.2.2.2.2.2.1)
        have HC3 := Lib.hid (ready_g G9.out _ HS.out.2.2.2.2.2.2)
        go_wp2_with fail
        refine HC1.out.mono ?_
        rintro e w' ⟨rfl, hw⟩
        replace hw := hw.symm
        subst hw
        go_wp2_with fail
        refine HC2.out.mono ?_
        rintro e w' ⟨rfl, hw⟩
        replace hw := hw.symm
        subst hw
        go_wp2_with fail
        refine HC3.out.mono ?_
        rintro e w9 ⟨V9, rfl, hr9, hb9⟩
        obtain ⟨o9, c9, rfl⟩ : ∃ o c, V9 = .slice o 0 c := own_slice hr9
        have GE := Lib.hid (G9.out.below hb9)
        clear hr9 hb9 G9 HC1 HC2 HC3
        go_wp2_with fail
        go_ret
        exact ⟨rfl, GE.out.bel⟩
end Go.Proofs.Ytmhlkdhinklnfaa
