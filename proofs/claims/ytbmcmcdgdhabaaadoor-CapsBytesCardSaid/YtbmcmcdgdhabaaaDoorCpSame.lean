/- SameBytes; SameTexts of one list. -/
import Derived.Test.YtbmcmcdgdhabaaaDoorCpM
import Derived.Laws.StructEq
namespace Go.Proofs.YtbmcmcdgdhabaaaDoor
open Go.RowKit
theorem take_step {α : Type} {xs ys : List α} {k : Nat} (h : xs.take k = ys.take k) (hx : k < xs.length) (hy : k < ys.length) (e : xs[k] = ys[k]) : xs.take (k + 1) = ys.take (k + 1) := by
  rw [List.take_add_one, List.take_add_one, h, List.getElem?_eq_getElem hx, List.getElem?_eq_getElem hy, e]
theorem take_all {α : Type} {xs ys : List α} {n : Nat} (hx : xs.length = n) (hy : ys.length = n) (h : xs.take n = ys.take n) : xs = ys := by
  rwa [List.take_of_length_le (by omega), List.take_of_length_le (by omega)] at h
set_option maxRecDepth 100000 in
set_option maxHeartbeats 1600000 in
theorem sameBytes_any (D D' : Nat → Prop) (V V' : Value) (xs ys : List UInt8) (w : World) (hx : BsIn w D V xs) (hy : BsIn w D' V' ys) :
    Calls Tryd.prog 10 #[V, V'] w fun e w' => e = .returned (.bool (decide (xs = ys))) ∧ Below w.heap.size w w' := by
  obtain ⟨o, cap, rfl, hle, hm, -⟩ := id hx
  obtain ⟨o', cap', rfl, hle', hm', -⟩ := id hy
  have HX := Lib.hid hx
  have HY := Lib.hid hy
  by_cases hn : xs.length = ys.length
  · clear hx hy
    rw [← hn] at hle'
    obtain ⟨n, hn0⟩ : ∃ n, xs.length = n := ⟨_, rfl⟩
    have HNX := Lib.hid hn0
    have HNY := Lib.hid (hn.symm.trans hn0)
    rw [← hn, hn0]
    rw [hn0] at hle hle'
    clear hn hn0
    go_enter Tryd.func10, Tryd.ntmps10
    go_wp2_with fail
    go_loopg [5] n (fun gg s5 wr => ∃ k : Nat, s5 = .int .i64 k ∧ k ≤ n ∧ n - k ≤ gg ∧ Hid (xs.take k = ys.take k ∧ Below w.heap.size w wr))
    case atStart => exact ⟨0, rfl, Nat.zero_le _, by omega, Lib.hid ⟨rfl, Below.refl _ _⟩⟩
    case round =>
      obtain ⟨k, rfl, hk, hgg, HA⟩ := hrel
      by_cases hlt : k < n
      · have hkx : k < xs.length := by rw [HNX.out]; exact hlt
        have hky : k < ys.length := by rw [HNY.out]; exact hlt
        obtain ⟨b, off, rfl, hb, k0⟩ := BsIn.cell (RowIn.below HX.out HA.out.2) k hkx
        obtain ⟨b', off', rfl, hb', k0'⟩ := BsIn.cell (RowIn.below HY.out HA.out.2) k hky
        have hst := fun h => take_step (k := k) HA.out.1 hkx hky h
        have hne : xs[k] ≠ ys[k] → decide (xs = ys) = false := fun h => decide_eq_false (fun e => h (by simp only [e]))
        generalize xs[k] = x at *
        generalize ys[k] = y at *
        have HS := Lib.hid hst
        have HN := Lib.hid hne
        clear hst hne
        have hki : (k : Int) < (n : Int) := by omega
        by_cases e : x = y
        · have HSS := Lib.hid (And.intro (HS.out e) HA.out.2)
          have e2 : ((x.toNat : Int) != (y.toNat : Int)) = false := by rw [e]; simp
          have e1 : ((x.toNat : Int) == (y.toNat : Int)) = true := by rw [e]; simp
          clear e
          go_wp2_with fail
          go_quiet (fail)
          go_wp2_with fail
          go_roundg (n - (k + 1))
          case measure => omega
          case rel => exact ⟨k + 1, by go_num, by omega, Nat.le_refl _, Lib.hid ⟨HSS.out.1, below_dN HSS.out.2 _⟩⟩
        · have HNN := Lib.hid (HN.out e)
          have hxy : x.toNat ≠ y.toNat := fun h => e (UInt8.toNat_inj.1 h)
          have e2 : ((x.toNat : Int) != (y.toNat : Int)) = true := by simp; omega
          have e1 : ((x.toNat : Int) == (y.toNat : Int)) = false := by simp; omega
          clear e hxy
          go_wp2_with fail
          go_quiet (fail)
          go_wp2_with fail
          go_ret
          exact ⟨ret_bool HNN.out.symm, below_dN HA.out.2 _⟩
      · obtain rfl : k = n := by omega
        have HD := Lib.hid (show decide (xs = ys) = true from decide_eq_true (take_all HNX.out HNY.out HA.out.1))
        go_wp2_with fail
        go_ret
        exact ⟨ret_bool HD.out.symm, HA.out.2⟩
  · have HD := Lib.hid (show decide (xs = ys) = false from decide_eq_false (fun e => hn (by rw [e])))
    have hi : ((xs.length : Int) != (ys.length : Int)) = true := by simp; omega
    have hi2 : ((xs.length : Int) == (ys.length : Int)) = false := by simp; omega
    clear hx hy
    generalize xs.length = n at *
    generalize ys.length = m at *
    go_enter Tryd.func10, Tryd.ntmps10
    go_wp2_with fail
    go_ret
    exact ⟨ret_bool HD.out.symm, Below.refl _ _⟩
abbrev txC (l : List ByteArray) : List Value := l.map Value.string
abbrev TxIn (w : World) (D : Nat → Prop) (V : Value) (l : List ByteArray) : Prop := RowIn w D V 1 l.length (txC l)
theorem TxIn.cell {w : World} {D : Nat → Prop} {o : Option Addr} {m cap : Nat} {l : List ByteArray} (h : TxIn w D (.slice o m cap) l) (k : Nat) (hk : k < l.length) : ∃ b off, o = some ⟨b, off, none⟩ ∧ b < w.heap.size ∧ w.cell? ⟨b, off + k, none⟩ = some (.string l[k]) := by
  obtain ⟨b, off, e, -, hlt, hc⟩ := RowIn.at_ h k hk
  exact ⟨b, off, e, hlt, hc k _ (by simp [txC, hk])⟩
set_option maxRecDepth 100000 in
set_option maxHeartbeats 1600000 in
theorem sameTexts_eq (D D' : Nat → Prop) (V V' : Value) (xs : List ByteArray) (w : World) (hx : TxIn w D V xs) (hy : TxIn w D' V' xs) :
    Calls Tryd.prog 13 #[V, V'] w fun e w' => e = .returned (.bool true) ∧ Below w.heap.size w w' := by
  obtain ⟨o, cap, rfl, hle, hm, -⟩ := id hx
  obtain ⟨o', cap', rfl, hle', hm', -⟩ := id hy
  have HX := Lib.hid hx
  have HY := Lib.hid hy
  clear hx hy
  obtain ⟨n, hn0⟩ : ∃ n, xs.length = n := ⟨_, rfl⟩
  have HNX := Lib.hid hn0
  rw [hn0]
  rw [hn0] at hle hle'
  clear hn0
  go_enter Tryd.func13, Tryd.ntmps13
  go_wp2_with fail
  go_loopg [5] n (fun gg s5 wr => ∃ k : Nat, s5 = .int .i64 k ∧ k ≤ n ∧ n - k ≤ gg ∧ Hid (Below w.heap.size w wr))
  case atStart => exact ⟨0, rfl, Nat.zero_le _, by omega, Lib.hid (Below.refl _ _)⟩
  case round =>
    obtain ⟨k, rfl, hk, hgg, HA⟩ := hrel
    by_cases hlt : k < n
    · have hkx : k < xs.length := by rw [HNX.out]; exact hlt
      obtain ⟨b, off, rfl, hb, k0⟩ := TxIn.cell (RowIn.below HX.out HA.out) k hkx
      obtain ⟨b', off', rfl, hb', k0'⟩ := TxIn.cell (RowIn.below HY.out HA.out) k hkx
      generalize xs[k] = x at *
      have hki : (k : Int) < (n : Int) := by omega
      go_wp2_with fail
      go_quiet (fail)
      go_wp2_with fail
      go_roundg (n - (k + 1))
      case measure => omega
      case rel => exact ⟨k + 1, by go_num, by omega, Nat.le_refl _, Lib.hid (below_dN HA.out _)⟩
    · have hki : ¬ (k : Int) < (n : Int) := by omega
      go_wp2_with fail
      go_ret
      exact ⟨rfl, HA.out⟩
end Go.Proofs.YtbmcmcdgdhabaaaDoor
