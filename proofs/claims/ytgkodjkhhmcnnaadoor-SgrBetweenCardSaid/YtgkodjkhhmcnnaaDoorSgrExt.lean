/- Colours by numbers behind: taken, areParts, told, setExtended. -/
import Derived.Test.YtgkodjkhhmcnnaaDoorSgrMarks
namespace Go.Proofs.YtgkodjkhhmcnnaaDoor.S5
open Go.RowKit
attribute [local go_sem ↓ 10000] run_slo

theorem taken_any (x : Int) (w : World) (ht : Tabs w) :
    Calls Tryd.prog 70 #[.int .i64 x] w fun e w' => e = .returned (.int .i64 (sg.taken x : Int)) ∧ w = w' := by
  have t0 := ht.takes 0 (by decide); have t1 := ht.takes 1 (by decide); have t2 := ht.takes 2 (by decide); have t3 := ht.takes 3 (by decide); have t4 := ht.takes 4 (by decide); have t5 := ht.takes 5 (by decide)
  simp only [List.getD, List.getElem?_cons_zero, List.getElem?_cons_succ, Option.getD_some] at t0 t1 t2 t3 t4 t5
  have hlt := ht.lt.2
  by_cases hr : 0 ≤ x ∧ x < 6
  · obtain rfl | rfl | rfl | rfl | rfl | rfl : x = 0 ∨ x = 1 ∨ x = 2 ∨ x = 3 ∨ x = 4 ∨ x = 5 := by omega
    all_goals
      clear hr ht
      go_enter Tryd.func70, Tryd.ntmps70
      go_wp2
      go_ret
      exact ⟨ret_int (by decide), rfl⟩
  · have hT : sg.taken x = 0 := by unfold sg.taken; rw [if_neg (by omega), if_neg (by omega)]
    rw [hT]
    clear hT ht
    have hx : x < 0 ∨ 6 ≤ x := by omega
    clear hr
    rcases hx with hx | hx
    all_goals
      go_enter Tryd.func70, Tryd.ntmps70
      go_wp2
      go_ret
      exact ⟨rfl, rfl⟩

theorem parts_take_succ (zs : List Int) (k : Nat) (h : k < zs.length) : sg.parts (zs.take (k + 1)) = (sg.parts (zs.take k) && (decide (0 ≤ zs.getD k 0) && decide (zs.getD k 0 ≤ 255))) := by
  unfold sg.parts
  rw [List.take_succ_eq_append_getElem h, List.all_append]
  simp [List.getD, h]
theorem parts_not (zs : List Int) (k : Nat) (h : k < zs.length) (hn : zs.getD k 0 < 0 ∨ 255 < zs.getD k 0) : sg.parts zs = false := by
  rw [Bool.eq_false_iff, ne_eq, sg.parts_iff]
  intro hall
  have := hall (zs.getD k 0) (by simp [List.getD, h])
  omega

set_option maxHeartbeats 800000 in
theorem areParts_any (o : Option Addr) (n cap : Nat) (zs : List Int) (w : World) (hx : Ints w o n cap zs) :
    Calls Tryd.prog 71 #[.slice o n cap] w fun e w' => e = .returned (.bool (sg.parts zs)) ∧ w = w' := by
  have hm : cap ≤ 9223372036854775807 := hx.max
  have hle := hx.le
  have HX := Lib.hid hx
  clear hx
  go_enter Tryd.func71, Tryd.ntmps71
  go_wp2_with fail
  go_loopg [7] n (fun gg s7 wr => ∃ k : Nat, s7 = .int .i64 k ∧ k ≤ n ∧ n - k ≤ gg ∧ Hid (sg.parts (zs.take k) = true) ∧ Hid (w = wr))
  case atStart => exact ⟨0, rfl, Nat.zero_le _, by omega, Lib.hid (by simp [sg.parts]), Lib.hid rfl⟩
  case round =>
    obtain ⟨k, rfl, hk, hgg, hall, hw⟩ := hrel
    obtain rfl := hw.out
    clear hw
    by_cases hlt : k < n
    · obtain ⟨b, off, rfl, hb, k0⟩ := HX.out.cell hlt
      have hlen : k < zs.length := by rw [HX.out.len]; exact hlt
      have hps := parts_take_succ zs k hlen
      have hpn := parts_not zs k hlen
      generalize zs.getD k 0 = x at *
      have HS := Lib.hid hps; have HN := Lib.hid hpn
      clear hps hpn hlen
      have hki : ((k : Int) < (n : Int)) := by omega
      by_cases e : x < 0 ∨ 255 < x
      · have HF := Lib.hid (HN.out e)
        rcases e with e | e
        · go_wp2_with fail
          go_ret
          exact ⟨ret_bool HF.out.symm, rfl⟩
        · go_wp2_with fail
          go_ret
          exact ⟨ret_bool HF.out.symm, rfl⟩
      · have h1 : 0 ≤ x := by omega
        have h2 : x ≤ 255 := by omega
        clear e
        go_wp2_with fail
        go_roundg (n - (k + 1))
        case measure => omega
        case rel => exact ⟨k + 1, by go_num, by omega, Nat.le_refl _, Lib.hid (by rw [HS.out, hall.out]; simp [h1, h2]), Lib.hid rfl⟩
    · obtain rfl : k = n := by omega
      have HD := Lib.hid (show sg.parts zs = true by have := hall.out; rwa [List.take_of_length_le (by rw [HX.out.len]; exact Nat.le_refl _)] at this)
      go_wp2_with fail
      go_ret
      exact ⟨ret_bool HD.out.symm, rfl⟩

theorem getD_in {zs : List Int} (h : sg.parts zs = true) (k : Nat) (hk : k < zs.length) : 0 ≤ zs.getD k 0 ∧ zs.getD k 0 ≤ 255 := by
  rw [sg.parts_iff] at h
  exact h _ (by simp [List.getD, hk])
theorem Ints.all {w : World} {o : Option Addr} {n cap : Nat} {zs : List Int} (H : Ints w o n cap zs) (hn : 0 < n) : ∃ b off, o = some ⟨b, off, none⟩ ∧ b < w.heap.size ∧ ∀ k, k < n → w.cell? ⟨b, off + k, none⟩ = some (.int .i64 (zs.getD k 0)) := by
  rcases H.at_ with h0 | h
  · omega
  · exact h
set_option maxHeartbeats 800000 in
theorem told_any (o : Option Addr) (n cap : Nat) (zs : List Int) (w : World) (hx : Ints w o n cap zs) (hn : n = 1 ∨ n = 3) (hp : sg.parts zs = true) :
    Calls Tryd.prog 72 #[.slice o n cap] w fun e w' => e = .returned (.int .i64 (sg.told zs)) ∧ ∃ q, w' = w.drewN q := by
  have hle := hx.le
  have hlen := hx.len
  rcases hn with rfl | rfl
  · obtain ⟨b, off, rfl, hb, hk⟩ := hx.all (by decide)
    have k0 := hk 0 (by decide)
    have hd := getD_in hp 0 (by omega)
    have HT := Lib.hid (show sg.told zs = zs.getD 0 0 + 1 by unfold sg.told; rw [if_pos hlen])
    generalize zs.getD 0 0 = x at *
    generalize sg.told zs = R at *
    rw [Nat.add_zero] at k0
    clear hp hx hlen hk
    go_enter Tryd.func72, Tryd.ntmps72
    go_wp2
    go_ret
    exact ⟨ret_int HT.out.symm, 0, rfl⟩
  · obtain ⟨b, off, rfl, hb, hk⟩ := hx.all (by decide)
    have k0 := hk 0 (by decide)
    have k1 := hk 1 (by decide)
    have k2 := hk 2 (by decide)
    have hd := getD_in hp 0 (by omega)
    have hd1 := getD_in hp 1 (by omega)
    have hd2 := getD_in hp 2 (by omega)
    have HT := Lib.hid (show sg.told zs = 16777216 + zs.getD 0 0 * 65536 + zs.getD 1 0 * 256 + zs.getD 2 0 by unfold sg.told; rw [if_neg (by omega)])
    generalize zs.getD 0 0 = x at *
    generalize zs.getD 1 0 = y at *
    generalize zs.getD 2 0 = z at *
    generalize sg.told zs = R at *
    rw [Nat.add_zero] at k0
    clear hp hx hlen hk
    go_enter Tryd.func72, Tryd.ntmps72
    go_wp2_with fail
    go_quiet (fail)
    go_wp2
    go_ret
    exact ⟨ret_int HT.out.symm, nq, rfl⟩

set_option maxRecDepth 100000 in
theorem run_slo1 (o : Option Addr) (n cap : Nat) (k : IntKind) (wx : World) : (Instr.slice 43 (.slice o (n + 1) cap) (some (.int k 1)) none none).run Tryd.prog wx = .ok (.slice (slo o cap 1) n (cap - 1)) wx := by
  rw [run_slice_l wx 43 o (n + 1) cap Tryd.underlying43 k 1 (by omega) (by omega)]
  have hz : (sizeOf (Tryd.prog.elem 43)).run Tryd.prog wx = .ok 1 wx := by kernel_rfl
  rw [hz]
  simp [Result.andThen, sliced, slo]
attribute [local go_sem ↓ 10000] run_slo1
/-- what setExtended leaves: the numbers behind, the colour in its place -/
def ExtTo (w : World) (b i : Nat) (c : Int) (zs : List Int) (e : Ending) (w' : World) : Prop :=
  ∃ o n cap, e = .returned (.slice o n cap) ∧ Ints w' o n cap (sg.ext c zs).2 ∧ Off o n b ∧ ∃ q, Puts (w.drewN q) w' ⟨b, i, none⟩ c (sg.ext c zs).1
theorem Puts.kept {w w' : World} {b i : Nat} {c d : Int} (h : Puts w w' ⟨b, i, none⟩ c d) : Kept w w' (· = b) := by
  rcases h with ⟨rfl, _⟩ | rfl
  · exact Kept.refl _ _
  · exact (Kept.refl w (fun k => k = b)).setCell (fun _ => rfl) _
theorem drew_drewN (w : World) : w.drew = w.drewN 1 := rfl
theorem ext_no {w : World} {b i : Nat} {c : Int} {zs : List Int} (q : Nat) (h : sg.ext c zs = (c, [])) : ExtTo w b i c zs (.returned (.slice none 0 0)) (w.drewN q) :=
  ⟨none, 0, 0, rfl, by rw [h]; exact Ints.nil _, Off.nil _ _, q, .inl ⟨rfl, by rw [h]⟩⟩
set_option maxHeartbeats 800000 in
theorem setExtended_any (b i : Nat) (c : Int) (o : Option Addr) (n cap : Nat) (zs : List Int) (w : World) (hc : w.cell? ⟨b, i, none⟩ = some (.int .i64 c)) (hf : w.frozen? ⟨b, i, none⟩ = false) (hx : Ints w o n cap zs) (ho : Off o n b) (ht : Tabs w) :
    Calls Tryd.prog 50 #[.pointer (some ⟨b, i, none⟩), .slice o n cap] w (ExtTo w b i c zs) := by
  have hle := hx.le
  have hm : cap ≤ 9223372036854775807 := hx.max
  have hlen := hx.len
  cases zs with
  | nil =>
    obtain rfl : n = 0 := by simpa using hlen.symm
    clear hx ho ht
    go_enter Tryd.func50, Tryd.ntmps50
    go_wp2
    go_ret
    exact ext_no 0 rfl
  | cons x r =>
    obtain ⟨n, rfl⟩ : ∃ m, n = m + 1 := ⟨r.length, by simpa using hlen.symm⟩
    obtain ⟨bb, off, rfl, hb, hk⟩ := hx.all (by omega)
    have k0 := hk 0 (by omega)
    rw [Nat.add_zero] at k0
    simp only [List.getD, List.getElem?_cons_zero, Option.getD_some] at k0
    have hlo := slice_lo hx 1 (by omega)
    simp only [Nat.add_sub_cancel, List.drop_one, List.tail_cons] at hlo
    have hof : Off (slo (some ⟨bb, off, none⟩) cap 1) n b := by have := ho.slo (cap := cap) (l := 1); simpa using this
    have hE : sg.ext c (x :: r) = if sg.taken x = 0 ∨ r.length < sg.taken x then (c, []) else (if sg.parts (r.take (sg.taken x)) then sg.told (r.take (sg.taken x)) else c, r.drop (sg.taken x)) := rfl
    have hrl := hlo.len
    rw [hrl] at hE
    have hT := fun w' (h : Tabs w') => taken_any x w' h
    have ht3 : sg.taken x = 0 ∨ sg.taken x = 1 ∨ sg.taken x = 3 := by rcases sg.taken_cases x with ⟨_, h⟩ | ⟨_, h⟩ | ⟨_, _, h⟩ <;> omega
    generalize sg.taken x = t at *
    have HE := Lib.hid hE; have HT := Lib.hid hT; have HT3 := Lib.hid ht3; have HL := Lib.hid hlo; have HO := Lib.hid hof; have HTB := Lib.hid ht
    clear hE hT ht3 hlo hof ht hk hx ho hrl hlen
    obtain ⟨o1, ho1⟩ : ∃ o1, o1 = slo (some ⟨bb, off, none⟩) cap 1 := ⟨_, rfl⟩
    rw [← ho1] at HL HO
    have HO1 := Lib.hid ho1.symm; clear ho1
    by_cases ht0 : t = 0
    · subst ht0
      go_enter Tryd.func50, Tryd.ntmps50
      go_wp2_with fail
      go_region_with (go_at_call 70; refine (HT.out _ HTB.out.drew).mono ?_; rintro e w' ⟨rfl, rfl⟩)
      go_wp2_with fail
      go_ret
      exact ext_no 1 (by rw [HE.out]; simp)
    · have e1 : ((t : Int) == 0) = false := by simpa using ht0
      have HT0 := Lib.hid ht0; clear ht0
      by_cases hlt : n < t
      · have e2 : decide (n < t) = true := decide_eq_true hlt
        go_enter Tryd.func50, Tryd.ntmps50
        go_wp2_with fail
        go_region_with (go_at_call 70; refine (HT.out _ HTB.out.drew).mono ?_; rintro e w' ⟨rfl, rfl⟩)
        go_wp2_with fail
        go_ret
        exact ext_no 1 (by rw [HE.out, if_pos (.inr hlt)])
      · have e2 : decide (n < t) = false := decide_eq_false hlt
        go_enter Tryd.func50, Tryd.ntmps50
        go_wp2_with fail
        go_region_with (go_at_call 70; refine (HT.out _ HTB.out.drew).mono ?_; rintro e w' ⟨rfl, rfl⟩)
        go_wp2_with fail
        have hown := (slice_hi HL.out t (by omega) t rfl).2
        have HW := Lib.hid hown; clear hown
        refine (areParts_any _ _ _ (r.take t) _ (HO1.out.symm ▸ HW.out.drewN 1)).mono ?_
        rintro e w1 ⟨rfl, rfl⟩
        rw [if_neg (by have := HT0.out; omega)] at HE
        have htn : (t : Int) ≤ (n : Int) := by omega
        have HLL := Lib.hid (slice_lo HL.out t (by omega)); have HOO := Lib.hid (HO.out.slo (cap := cap - 1) (l := t))
        generalize hpp : sg.parts (r.take t) = p at *
        cases p
        · clear hpp
          go_wp2_with fail
          go_ret
          rw [HO1.out]
          exact ⟨_, _, _, rfl, by rw [HE.out]; exact HLL.out.drewN 1, HOO.out, 1, .inl ⟨rfl, by rw [HE.out]; rfl⟩⟩
        · have HPP := Lib.hid hpp; clear hpp
          go_wp2_with fail
          refine (told_any _ _ _ (r.take t) _ (HO1.out.symm ▸ HW.out.drewN 1) (by have := HT0.out; have := HT3.out; omega) HPP.out).mono ?_
          rintro e w2 ⟨rfl, q, rfl⟩
          go_wp2_with fail
          go_ret
          rw [HO1.out]
          exact ⟨_, _, _, rfl, by rw [HE.out]; exact (HLL.out.drewN (1 + q)).kept ((Kept.refl _ (fun k => k = b)).setCell (fun _ => rfl) _) HOO.out, HOO.out, 1 + q, .inr (by rw [HE.out]; rfl)⟩
end Go.Proofs.YtgkodjkhhmcnnaaDoor.S5
