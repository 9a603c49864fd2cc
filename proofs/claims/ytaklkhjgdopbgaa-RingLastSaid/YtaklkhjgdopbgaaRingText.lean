/- Slices of texts that come in or were made; SameTexts. -/
import Derived.Test.YtaklkhjgdopbgaaRingLaw
import Derived.Test.YtaklkhjgdopbgaaRingListS
namespace Go.Proofs.Ytaklkhjgdopbgaa
open Go.ChangeShapes Go.WideShapes Go.ChangeAt Go.RowKit Go.Joins

/-- texts in the cells of a slice -/
structure Strs (w : World) (o : Option Addr) (n cap : Nat) (zs : List ByteArray) : Prop where
  len : zs.length = n
  le : n ≤ cap
  max : cap ≤ maxLen
  at_ : n = 0 ∨ ∃ b off, o = some ⟨b, off, none⟩ ∧ b < w.heap.size ∧ ∀ k, k < n → w.cell? ⟨b, off + k, none⟩ = some (.string (zs.getD k ByteArray.empty))
theorem Strs.below {w w' : World} {o : Option Addr} {n cap : Nat} {zs : List ByteArray} (H : Strs w o n cap zs) (hb : Below w.heap.size w w') : Strs w' o n cap zs :=
  ⟨H.len, H.le, H.max, H.at_.imp id fun ⟨b, off, h1, h2, h3⟩ => ⟨b, off, h1, Nat.lt_of_lt_of_le h2 hb.size, fun k hk => (hb.cell (p := ⟨b, off + k, none⟩) h2).trans (h3 k hk)⟩⟩
theorem Strs.drewN {w : World} {o : Option Addr} {n cap : Nat} {zs : List ByteArray} (H : Strs w o n cap zs) (j : Nat) : Strs (w.drewN j) o n cap zs := ⟨H.len, H.le, H.max, H.at_⟩
theorem Strs.cell {w : World} {o : Option Addr} {n cap : Nat} {zs : List ByteArray} (H : Strs w o n cap zs) {k : Nat} (hk : k < n) : ∃ b off, o = some ⟨b, off, none⟩ ∧ b < w.heap.size ∧ w.cell? ⟨b, off + k, none⟩ = some (.string (zs.getD k ByteArray.empty)) := by
  rcases H.at_ with h0 | ⟨b, off, h1, h2, h3⟩
  · omega
  · exact ⟨b, off, h1, h2, h3 k hk⟩
theorem getD_mapS (zs : List ByteArray) (i : Nat) : (zs.map Value.string).getD i (Value.string ByteArray.empty) = .string (zs.getD i ByteArray.empty) := by
  simp [List.getD, List.getElem?_map]
  try (cases zs[i]? <;> rfl)
theorem Strs.of_own {w : World} {base : Nat} {e : TypeId} {v : Value} {n : Nat} {zs : List ByteArray} (h : w.ownsRow base e 1 v n (zs.map Value.string)) : ∃ o cap, v = .slice o n cap ∧ Strs w o n cap zs := by
  have hl : zs.length = n := by have := own_len h; simpa using this
  by_cases h0 : n = 0
  · subst h0
    rcases h.2 with ⟨rfl, _⟩ | ⟨g, cap, cur, rfl, _, _, hc, hm, _⟩
    · exact ⟨_, _, rfl, hl, Nat.le_refl _, Nat.zero_le _, .inl rfl⟩
    · exact ⟨_, _, rfl, hl, hc, hm, .inl rfl⟩
  · obtain ⟨g, cap, rfl, hg, hlt, hc, hm⟩ := own_some h (by omega)
    refine ⟨_, _, rfl, hl, hc, hm, .inr ⟨g, 0, rfl, hlt, fun k hk => ?_⟩⟩
    have := own_cell (d := Value.string ByteArray.empty) h hk
    rw [Nat.zero_add, this, getD_mapS]
theorem sameS_step {xs ys : List ByteArray} {k : Nat} (h : ∀ i, i < k → xs.getD i ByteArray.empty = ys.getD i ByteArray.empty) (hk : xs.getD k ByteArray.empty = ys.getD k ByteArray.empty) : ∀ i, i < k + 1 → xs.getD i ByteArray.empty = ys.getD i ByteArray.empty := by
  intro i hi
  by_cases e : i = k
  · subst e; exact hk
  · exact h i (by omega)

set_option maxHeartbeats 800000 in
/-- the same texts are the same -/
theorem sameS_any (o : Option Addr) (n cap : Nat) (o' : Option Addr) (cap' : Nat) (xs : List ByteArray) (w : World) (hx : Strs w o n cap xs) (hy : Strs w o' n cap' xs) :
    Calls Try.prog 26 #[.slice o n cap, .slice o' n cap'] w fun e w' => e = .returned (.bool true) ∧ ∃ nq, w' = w.drewN nq := by
  have hm : cap ≤ 9223372036854775807 := hx.max
  have hm' : cap' ≤ 9223372036854775807 := hy.max
  have hle := hx.le
  have hle' := hy.le
  have HX := Lib.hid hx; have HY := Lib.hid hy
  clear hx hy
  go_enter Try.func26, Try.ntmps26
  go_wp2_with fail
  go_loopg [5] n (fun gg s5 wr => ∃ k j : Nat, s5 = .int .i64 k ∧ k ≤ n ∧ n - k ≤ gg ∧ Hid (wr = w.drewN j))
  case atStart => exact ⟨0, 0, rfl, Nat.zero_le _, by omega, Lib.hid rfl⟩
  case round =>
    obtain ⟨k, j, rfl, hk, hgg, hw⟩ := hrel
    by_cases hlt : k < n
    · obtain ⟨b, off, rfl, hb, k0⟩ := (show Strs wr _ _ _ _ from hw.out ▸ HX.out.drewN j).cell hlt
      obtain ⟨b', off', rfl, hb', k0'⟩ := (show Strs wr _ _ _ _ from hw.out ▸ HY.out.drewN j).cell hlt
      generalize xs.getD k ByteArray.empty = x at *
      have hki : ((k : Int) < (n : Int)) := by omega
      go_wp2_with fail
      go_quiet (fail)
      go_wp2_with fail
      go_roundg (n - (k + 1))
      case measure => omega
      case rel => exact ⟨k + 1, j + nq, by go_num, by omega, Nat.le_refl _, Lib.hid (by rw [hw.out, World.drewN_drewN])⟩
    · obtain rfl : k = n := by omega
      go_wp2_with fail
      go_ret
      exact ⟨rfl, j, hw.out⟩

theorem sameS_any2 (o : Option Addr) (n cap : Nat) (o' : Option Addr) (n' cap' : Nat) (xs : List ByteArray) (w : World) (hx : Strs w o n cap xs) (hy : Strs w o' n' cap' xs) :
    Calls Try.prog 26 #[.slice o n cap, .slice o' n' cap'] w fun e w' => e = .returned (.bool true) ∧ ∃ nq, w' = w.drewN nq := by
  obtain rfl : n = n' := hx.len.symm.trans hy.len
  exact sameS_any o n cap o' cap' xs w hx hy
theorem run_sloS (o : Option Addr) (n cap : Nat) (k : IntKind) (l : Nat) (hl : (l : Int) ≤ (n : Int)) (wx : World) : (Instr.slice 44 (.slice o n cap) (some (.int k (l : Int))) none none).run Try.prog wx = .ok (.slice (slo o cap l) (n - l) (cap - l)) wx := by
  rw [run_slice_l wx 44 o n cap Try.underlying44 k l (by omega) (by omega)]
  have hz : (sizeOf (Try.prog.elem 44)).run Try.prog wx = .ok 1 wx := by kernel_rfl
  rw [hz]
  simp [Result.andThen, sliced, slo]
theorem run_shiS (o : Option Addr) (n cap : Nat) (k : IntKind) (l : Nat) (hl : (l : Int) ≤ (cap : Int)) (wx : World) : (Instr.slice 44 (.slice o n cap) none (some (.int k (l : Int))) none).run Try.prog wx = .ok (.slice o l cap) wx := by
  rw [run_slice_h wx 44 o n cap Try.underlying44 k l (by omega) hl]
  have hz : (sizeOf (Try.prog.elem 44)).run Try.prog wx = .ok 1 wx := by kernel_rfl
  rw [hz]
  have e : (fun x : Addr => x.add 0) = id := funext addr_add0
  simp [Result.andThen, sliced, e]
theorem sliceS_lo {w : World} {o : Option Addr} {n cap : Nat} {zs : List ByteArray} (H : Strs w o n cap zs) (l : Nat) (hl : l ≤ n) : Strs w (slo o cap l) (n - l) (cap - l) (zs.drop l) := by
  have hle := H.le
  have hm := H.max
  refine ⟨by rw [List.length_drop, H.len], by omega, by omega, ?_⟩
  rcases H.at_ with h0 | ⟨b, off, rfl, hb, hc⟩
  · exact .inl (by omega)
  · by_cases hcl : cap = l
    · exact .inl (by omega)
    · right
      refine ⟨b, off + l, by rw [slo, if_neg hcl]; simp [Addr.add], hb, fun k hk => ?_⟩
      rw [Nat.add_assoc, hc (l + k) (by omega)]
      simp [List.getD, List.getElem?_drop]
theorem sliceS_hi {w : World} {o : Option Addr} {n cap : Nat} {zs : List ByteArray} (H : Strs w o n cap zs) (l : Nat) (hl : l ≤ n) : Strs w o l cap (zs.take l) := by
  have hle := H.le
  refine ⟨by rw [List.length_take, H.len]; omega, by omega, H.max, ?_⟩
  rcases H.at_ with h0 | ⟨b, off, rfl, hb, hc⟩
  · exact .inl (by omega)
  · right
    exact ⟨b, off, rfl, hb, fun k hk => by rw [hc k (by omega)]; simp [List.getD, hk]⟩

theorem isS_drewN {w : World} {b : Nat} {pv : Value} {L : List Value} {most gone : Nat} (h : rS.Is w b pv L most gone) (j : Nat) : rS.Is (w.drewN j) b pv L most gone := by
  obtain ⟨ps, first, hr, hL⟩ := h
  exact ⟨ps, first, hr.drewN j, hL⟩
theorem lenS_law {w : World} {b : Nat} {pv : Value} {L : List Value} {most gone l : Nat} (h : rS.Is w b pv L most gone) (hl : L.length = l) :
    Calls Try.prog 24 #[.pointer (some ⟨b, 0, none⟩)] w fun e w' => e = .returned (.int .i64 (l : Int)) ∧ w = w' := by
  obtain ⟨ps, first, hr, _⟩ := h
  have := rS.len_any b pv first L.length most gone w (ringCells hr.blk)
  rwa [hl] at this
theorem goneS_is {w : World} {b : Nat} {pv : Value} {L : List Value} {most gone : Nat} (h : rS.Is w b pv L most gone) :
    Calls Try.prog 25 #[.pointer (some ⟨b, 0, none⟩)] w fun e w' => e = .returned (.int .i64 (gone : Int)) ∧ w = w' := by
  obtain ⟨ps, first, hr, _⟩ := h
  exact rS.gone_any b pv first L.length most gone w (ringCells hr.blk)
theorem lastOf_mapS (zs : List ByteArray) (T : Nat) : rg.lastOf (zs.map Value.string) T = (rg.lastOf zs T).map Value.string := by simp [rg.lastOf]
theorem allS_law {w : World} {b : Nat} {pv : Value} {zs : List ByteArray} {most gone l : Nat} (h : rS.Is w b pv (zs.map Value.string) most gone) (hl : zs.length = l) (j : Nat) :
    Calls Try.prog 27 #[.pointer (some ⟨b, 0, none⟩)] (w.drewN j) fun e w' => ∃ o cap, e = .returned (.slice o l cap) ∧ Strs w' o l cap zs ∧ Below w.heap.size w w' :=
  (rS.all_any b pv _ most gone _ (isS_drewN h j)).mono fun _ _ ⟨av, he, hr, hb⟩ => by
    rw [List.length_map, hl] at hr
    obtain ⟨o, cap, rfl, hi⟩ := Strs.of_own hr
    exact ⟨o, cap, he, hi, below_of_drewN hb⟩
theorem allS_law2 {w : World} {b : Nat} {pv : Value} {zs : List ByteArray} {most gone l : Nat} (h : rS.Is w b pv (zs.map Value.string) most gone) (hl : zs.length = l) :
    Calls Try.prog 27 #[.pointer (some ⟨b, 0, none⟩)] w fun e w' => ∃ o cap, e = .returned (.slice o l cap) ∧ Strs w' o l cap zs ∧ Below w.heap.size w w' :=
  (rS.all_any b pv _ most gone _ h).mono fun _ _ ⟨av, he, hr, hb⟩ => by
    rw [List.length_map, hl] at hr
    obtain ⟨o, cap, rfl, hi⟩ := Strs.of_own hr
    exact ⟨o, cap, he, hi, hb⟩
theorem map_take_snocS (zs : List ByteArray) (k : Nat) (h : k < zs.length) : (zs.map Value.string).take (k + 1) = (zs.map Value.string).take k ++ [Value.string (zs.getD k ByteArray.empty)] := by
  rw [List.take_succ_eq_append_getElem (by simpa using h)]
  simp [List.getD, h]
theorem len_takeS (zs : List ByteArray) (k : Nat) (h : k ≤ zs.length) : ((zs.map Value.string).take k).length = k := by simp; omega
end Go.Proofs.Ytaklkhjgdopbgaa
