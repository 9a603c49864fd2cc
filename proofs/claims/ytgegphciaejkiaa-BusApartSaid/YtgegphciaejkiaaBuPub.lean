/- Publish, Ready, Kinds, New. -/
import Derived.Test.YtgegphciaejkiaaBuShut
namespace Go.Proofs.Ytgegphciaejkiaa
open Go.RowKit
namespace bu
/-- slots up to n get an event: how many took it, and the slots behind it -/
def pub (S : Nat → Slot) (e : Ev) : Nat → Nat × (Nat → Slot)
  | 0 => (0, S)
  | n + 1 => if wantsS (S n) e.kind = true then ((pub S e n).1 + (if (putS (S n) e).1 = true then 1 else 0), upd (pub S e n).2 n (putS (S n) e).2) else pub S e n
theorem pub_later (S : Nat → Slot) (e : Ev) : ∀ n j, n ≤ j → (pub S e n).2 j = S j
  | 0, j, _ => rfl
  | n + 1, j, h => by
    unfold pub
    split
    · simp only
      rw [upd_other _ _ (by omega)]
      exact pub_later S e n j (by omega)
    · exact pub_later S e n j (by omega)
theorem pub_le (S : Nat → Slot) (e : Ev) : ∀ n, (pub S e n).1 ≤ n
  | 0 => Nat.le_refl _
  | n + 1 => by
    unfold pub
    have := pub_le S e n
    split
    · simp only
      split <;> omega
    · omega
def readyU (S : Nat → Slot) : Nat → List Int
  | 0 => []
  | n + 1 => if 0 < lenA S ((n : Int) + 1) then readyU S n ++ [(n : Int) + 1] else readyU S n
theorem readyU_len (S : Nat → Slot) : ∀ n, (readyU S n).length ≤ n
  | 0 => Nat.le_refl _
  | n + 1 => by
    unfold readyU
    have := readyU_len S n
    split
    · rw [List.length_append, List.length_singleton]; omega
    · omega
def kindsU (k : Nat → Bool) : Nat → List Int
  | 0 => []
  | n + 1 => if k n = true then kindsU k n ++ [(n : Int) + 1] else kindsU k n
theorem kindsU_len (k : Nat → Bool) : ∀ n, (kindsU k n).length ≤ n
  | 0 => Nat.le_refl _
  | n + 1 => by
    unfold kindsU
    have := kindsU_len k n
    split
    · rw [List.length_append, List.length_singleton]; omega
    · omega
def kindsA (S : Nat → Slot) (p : Int) : List Int := match openA S p with | none => [] | some i => kindsU (S i).kinds 8
end bu
set_option maxRecDepth 100000 in
set_option maxHeartbeats 3200000 in
theorem pubP_any (q : Nat) (S : Nat → bu.Slot) (V : Nat → Value) (ev : bu.Ev) (w : World) (h : BuAt w q S V) (hn : ∀ i, i < 4 → (S i).queue.length ≤ 16) (hd : ∀ i, i < 4 → 0 ≤ (S i).dropped ∧ (S i).dropped < 9223372036854775807) : Calls Try.prog 19 #[.pointer (some ⟨q, 0, none⟩), evV ev] w fun e w' => e = .returned (.int .i64 ((bu.pub S ev 4).1 : Nat)) ∧ BuR q V w w' (bu.pub S ev 4).2 := by
  have hb1 := below_one w (evO ev)
  have HB := Lib.hid (And.intro (h.below hb1) hb1)
  have HN := Lib.hid (heap_alloc_new w (evO ev))
  have HOL := Lib.hid (fun y (hy : Own q V y) => (h.own_lt hy).2)
  have HND := Lib.hid (And.intro hn hd)
  clear h hn hd hb1
  go_enter Try.func19, Try.ntmps19
  go_upto_region 1 with fail
  generalize w.alloc (evO ev) = w1 at *
  have HS : Hid (w.heap.size < w1.heap.size) := Lib.hid (heap_lt HN.out)
  go_upto_region 3 with fail
  go_loopg [5, 8] 4 (fun gg s5 s8 wr => ∃ j : Nat, s8 = .int .i64 j ∧ s5 = .int .i64 ((bu.pub S ev j).1 : Nat) ∧ j ≤ 4 ∧ 4 - j ≤ gg ∧ Hid (BuR q V w1 wr (bu.pub S ev j).2))
  case atStart => exact ⟨0, rfl, rfl, Nat.zero_le _, Nat.le_refl _, Lib.hid (BuR.same HB.out.1)⟩
  case round =>
    obtain ⟨j, rfl, rfl, hj, hgg, HA⟩ := hrel
    by_cases hlt : j < 4
    case neg =>
      obtain rfl : j = 4 := by omega
      have HF : Hid (BuR q V w wr (bu.pub S ev 4).2) := Lib.hid (BuR.step (Fr.of_below HB.out.2 (Own q V)) (fun y hy => .inl hy) HA.out)
      go_wp2_with fail
      go_ret
      exact ⟨rfl, HF.out⟩
    case pos =>
      have hji : (j : Int) < 4 := by omega
      obtain ⟨V1, b1, b2, b3⟩ := HA.out
      have HP1 := Lib.hid b1
      have HP2 := Lib.hid (And.intro b2 b3)
      have hSj : (bu.pub S ev j).2 j = S j := bu.pub_later S ev j j (Nat.le_refl _)
      have HSJ := Lib.hid hSj
      have HW := Lib.hid (wants_any q j hlt _ V1 ev.kind wr b1)
      have hPU := put_any q j hlt _ V1 ev wr b1 (by rw [hSj]; exact HND.out.2 j hlt) (by rw [hSj]; exact HND.out.1 j hlt)
      rw [hSj] at HW hPU
      have HPU := Lib.hid hPU
      have hpl := bu.pub_le S ev j
      have hbx : wr.heap[w.heap.size]? = some (evO ev) := (b2.block _ HS.out (fun x => absurd (HOL.out _ x) (Nat.lt_irrefl _))).trans HN.out
      have x0 : wr.cell? ⟨w.heap.size, 0, none⟩ = some (.int .i64 ev.kind) := (cell_of_heap hbx).trans rfl
      have x1 : wr.cell? ⟨w.heap.size, 1, none⟩ = some (.int .i64 ev.a) := (cell_of_heap hbx).trans rfl
      have x2 : wr.cell? ⟨w.heap.size, 2, none⟩ = some (.int .i64 ev.b) := (cell_of_heap hbx).trans rfl
      have x3 : wr.cell? ⟨w.heap.size, 3, none⟩ = some (.string ev.text) := (cell_of_heap hbx).trans rfl
      have hlx := heap_lt hbx
      have HST : Hid (bu.pub S ev (j + 1) = if bu.wantsS (S j) ev.kind = true then ((bu.pub S ev j).1 + (if (bu.putS (S j) ev).1 = true then 1 else 0), bu.upd (bu.pub S ev j).2 j (bu.putS (S j) ev).2) else bu.pub S ev j) := Lib.hid rfl
      clear HA b1 b2 b3 hbx hPU hSj HSJ
      generalize bu.pub S ev j = R0 at *
      obtain ⟨WB, hWB⟩ : ∃ WB, bu.wantsS (S j) ev.kind = WB := ⟨_, rfl⟩
      rw [hWB] at HW HST
      obtain ⟨P, hP⟩ : ∃ P, bu.putS (S j) ev = P := ⟨_, rfl⟩
      rw [hP] at HPU HST
      clear hWB hP
      obtain ⟨ok, s2⟩ := P
      obtain ⟨n0, S0⟩ := R0
      dsimp only at HPU HST HP1 hpl
      go_upto_region 6 with fail
      cases WB with
      | false =>
        have HR1 : Hid (bu.pub S ev (j + 1) = (n0, S0)) := Lib.hid HST.out
        have HF : Hid (BuR q V w1 wr (bu.pub S ev (j + 1)).2) := Lib.hid (by rw [HR1.out]; exact ⟨V1, HP1.out, HP2.out.1, HP2.out.2⟩)
        clear HST HPU
        go_wp2_with fail
        refine HW.out.mono ?_
        rintro e w' ⟨rfl, hw⟩
        replace hw := hw.symm
        subst hw
        go_wp2_with fail
        go_roundg (4 - (j + 1))
        case measure => omega
        case rel => exact ⟨j + 1, by go_num, by rw [HR1.out], by omega, Nat.le_refl _, HF⟩
      | true =>
        have HR1 : Hid (bu.pub S ev (j + 1) = (n0 + (if ok = true then 1 else 0), bu.upd S0 j s2)) := Lib.hid HST.out
        clear HST
        go_wp2_with fail
        refine HW.out.mono ?_
        rintro e w' ⟨rfl, hw⟩
        replace hw := hw.symm
        subst hw
        go_wp2_with fail
        refine HPU.out.mono ?_
        rintro e w5 ⟨rfl, hk5⟩
        have HF : Hid (BuR q V w1 w5 (bu.pub S ev (j + 1)).2) := Lib.hid (by rw [HR1.out]; exact BuR.step HP2.out.1 HP2.out.2 hk5)
        clear hk5 HPU HW x0 x1 x2 x3 hlx
        cases ok with
        | false =>
          go_wp2_with fail
          go_roundg (4 - (j + 1))
          case measure => omega
          case rel => exact ⟨j + 1, by go_num, by rw [HR1.out]; rfl, by omega, Nat.le_refl _, HF⟩
        | true =>
          have hw1 : IntKind.i64.wrap ((n0 : Int) + 1) = ((n0 + 1 : Nat) : Int) := by rw [IntKind.wrap_i64]; omega
          go_wp2_with fail
          go_roundg (4 - (j + 1))
          case measure => omega
          case rel => exact ⟨j + 1, by go_num, by rw [HR1.out]; rfl, by omega, Nat.le_refl _, HF⟩
set_option maxRecDepth 100000 in
set_option maxHeartbeats 1600000 in
theorem readyP_any (q : Nat) (S : Nat → bu.Slot) (V : Nat → Value) (w : World) (h : BuAt w q S V) : Calls Try.prog 16 #[.pointer (some ⟨q, 0, none⟩)] w fun e w' => IntsAns w w' e (bu.readyU S 4) := by
  have HLN := Lib.hid (fun (j : Nat) (W : World) (hb : Below w.heap.size w W) => lenP_any q S V ((j : Int) + 1) W (h.below hb))
  clear h
  go_enter Try.func16, Try.ntmps16
  go_upto_region 3 with fail
  go_loopg [3, 4] 4 (fun gg s3 s4 wr => ∃ (j : Nat) (ao : Option Addr) (ac : Nat), s4 = .int .i64 ((j : Int) + 1) ∧ s3 = .slice ao (bu.readyU S j).length ac ∧ j ≤ 4 ∧ 4 - j ≤ gg ∧ Hid (NR w.heap.size w wr (.slice ao (bu.readyU S j).length ac) (bu.readyU S j)))
  case atStart => exact ⟨0, none, 0, rfl, rfl, Nat.zero_le _, Nat.le_refl _, Lib.hid ⟨⟨rfl, .inl ⟨rfl, rfl⟩⟩, Below.refl _ _⟩⟩
  case round =>
    obtain ⟨j, ao, ac, rfl, rfl, hj, hgg, HR⟩ := hrel
    by_cases hlt : j < 4
    case neg =>
      obtain rfl : j = 4 := by omega
      have hji : ¬ ((4 : Nat) : Int) + 1 ≤ 4 := by omega
      go_wp2_with fail
      go_ret
      exact ⟨_, rfl, HR.out.own, HR.out.bel⟩
    case pos =>
      have hji : (j : Int) + 1 ≤ 4 := by omega
      have hrl := bu.readyU_len S j
      have HST : Hid (bu.readyU S (j + 1) = if 0 < bu.lenA S ((j : Int) + 1) then bu.readyU S j ++ [(j : Int) + 1] else bu.readyU S j) := Lib.hid rfl
      have HL2 := Lib.hid (HLN.out j wr HR.out.bel)
      obtain ⟨n, hn⟩ : ∃ n, bu.lenA S ((j : Int) + 1) = n := ⟨_, rfl⟩
      rw [hn] at HL2 HST
      clear hn
      generalize bu.readyU S j = L at *
      by_cases h0 : 0 < n
      · have h0i : (0 : Int) < (n : Int) := by omega
        have HS1 : Hid (L ++ [(j : Int) + 1] = bu.readyU S (j + 1)) := Lib.hid (by rw [HST.out, if_pos h0])
        have HSL : Hid ((bu.readyU S (j + 1)).length = L.length + 1) := Lib.hid (by rw [← HS1.out, List.length_append, List.length_singleton])
        clear HST
        obtain ⟨LL, hLL⟩ : ∃ LL, bu.readyU S (j + 1) = LL := ⟨_, rfl⟩
        rw [hLL] at HS1 HSL
        have HLL := Lib.hid hLL
        clear hLL
        go_wp2_with fail
        refine HL2.out.mono ?_
        rintro e w' ⟨rfl, hw⟩
        replace hw := hw.symm
        subst hw
        go_wp2_with (at_builtin; go_loud (refine wpList_num wr ((j : Int) + 1) rfl _ _ rfl w.heap.size (.slice ao L.length ac) L LL HS1.out rfl HR.out.own wr.heap.size rfl rfl (by omega) HR.out.bel.size ?_))
        intro V' w5 r1 r2
        have H5 : Hid (NR w.heap.size w w5 V' LL) := Lib.hid (HR.out.push HR.out.bel.size r1 r2)
        obtain ⟨ao', ac', rfl⟩ := own_slice r1
        clear r1 r2
        go_wp2_with fail
        go_roundg (4 - (j + 1))
        case measure => omega
        case rel => exact ⟨j + 1, ao', ac', by go_num, by rw [HLL.out], by omega, Nat.le_refl _, Lib.hid (by rw [HLL.out]; exact H5.out)⟩
      · have h0i : ¬ (0 : Int) < (n : Int) := by omega
        have HS1 : Hid (bu.readyU S (j + 1) = L) := Lib.hid (by rw [HST.out, if_neg h0])
        clear HST
        go_wp2_with fail
        refine HL2.out.mono ?_
        rintro e w' ⟨rfl, hw⟩
        replace hw := hw.symm
        subst hw
        go_wp2_with fail
        go_roundg (4 - (j + 1))
        case measure => omega
        case rel => exact ⟨j + 1, ao, ac, by go_num, by rw [HS1.out], by omega, Nat.le_refl _, Lib.hid (by rw [HS1.out]; exact HR.out)⟩
theorem run_kb0 (b0 b1 b2 b3 b4 b5 b6 b7 : Bool) (w : World) : (Instr.index 56 (.agg #[.bool b0, .bool b1, .bool b2, .bool b3, .bool b4, .bool b5, .bool b6, .bool b7]) (.int .i64 0)).run Try.prog w = .ok (.bool b0) w := by kernel_rfl
theorem run_kb1 (b0 b1 b2 b3 b4 b5 b6 b7 : Bool) (w : World) : (Instr.index 56 (.agg #[.bool b0, .bool b1, .bool b2, .bool b3, .bool b4, .bool b5, .bool b6, .bool b7]) (.int .i64 1)).run Try.prog w = .ok (.bool b1) w := by kernel_rfl
theorem run_kb2 (b0 b1 b2 b3 b4 b5 b6 b7 : Bool) (w : World) : (Instr.index 56 (.agg #[.bool b0, .bool b1, .bool b2, .bool b3, .bool b4, .bool b5, .bool b6, .bool b7]) (.int .i64 2)).run Try.prog w = .ok (.bool b2) w := by kernel_rfl
theorem run_kb3 (b0 b1 b2 b3 b4 b5 b6 b7 : Bool) (w : World) : (Instr.index 56 (.agg #[.bool b0, .bool b1, .bool b2, .bool b3, .bool b4, .bool b5, .bool b6, .bool b7]) (.int .i64 3)).run Try.prog w = .ok (.bool b3) w := by kernel_rfl
theorem run_kb4 (b0 b1 b2 b3 b4 b5 b6 b7 : Bool) (w : World) : (Instr.index 56 (.agg #[.bool b0, .bool b1, .bool b2, .bool b3, .bool b4, .bool b5, .bool b6, .bool b7]) (.int .i64 4)).run Try.prog w = .ok (.bool b4) w := by kernel_rfl
theorem run_kb5 (b0 b1 b2 b3 b4 b5 b6 b7 : Bool) (w : World) : (Instr.index 56 (.agg #[.bool b0, .bool b1, .bool b2, .bool b3, .bool b4, .bool b5, .bool b6, .bool b7]) (.int .i64 5)).run Try.prog w = .ok (.bool b5) w := by kernel_rfl
theorem run_kb6 (b0 b1 b2 b3 b4 b5 b6 b7 : Bool) (w : World) : (Instr.index 56 (.agg #[.bool b0, .bool b1, .bool b2, .bool b3, .bool b4, .bool b5, .bool b6, .bool b7]) (.int .i64 6)).run Try.prog w = .ok (.bool b6) w := by kernel_rfl
theorem run_kb7 (b0 b1 b2 b3 b4 b5 b6 b7 : Bool) (w : World) : (Instr.index 56 (.agg #[.bool b0, .bool b1, .bool b2, .bool b3, .bool b4, .bool b5, .bool b6, .bool b7]) (.int .i64 7)).run Try.prog w = .ok (.bool b7) w := by kernel_rfl
end Go.Proofs.Ytgegphciaejkiaa
