/- What runes take together, the code's and the document's. -/
import Derived.Test.YtknkmfofjbpdbaaDoorRefWidth
import Derived.ProofKit
import Derived.OpenShut
namespace Go.Proofs.YtknkmfofjbpdbaaDoor
open Go.ChangeShapes Go.WideShapes Go.ChangeAt Go.RowKit

/-- runes in the cells of a slice, whoever's it is -/
structure SliceN (w : World) (o : Option Addr) (n cap : Nat) (zs : List Int) : Prop where
  nums : Nums .i32 w o n cap zs
  i32 : ∀ z ∈ zs, -2147483648 ≤ z ∧ z ≤ 2147483647
theorem SliceN.len {w : World} {o : Option Addr} {n cap : Nat} {zs : List Int} (H : SliceN w o n cap zs) : zs.length = n := H.nums.len
theorem SliceN.le {w : World} {o : Option Addr} {n cap : Nat} {zs : List Int} (H : SliceN w o n cap zs) : n ≤ cap := H.nums.le
theorem SliceN.max {w : World} {o : Option Addr} {n cap : Nat} {zs : List Int} (H : SliceN w o n cap zs) : cap ≤ maxLen := H.nums.max
theorem SliceN.below {w w' : World} {o : Option Addr} {n cap : Nat} {zs : List Int} (H : SliceN w o n cap zs) {B : Nat} (hb : Below B w w') (hB : w.heap.size ≤ B) : SliceN w' o n cap zs :=
  ⟨H.nums.below (hb.mono hB), H.i32⟩
theorem SliceN.one {w : World} {o : Option Addr} {n cap : Nat} {zs : List Int} (H : SliceN w o n cap zs) {k : Nat} (hk : k < n) : ∃ b off, o = some ⟨b, off, none⟩ ∧ b < w.heap.size ∧ w.cell? ⟨b, off + k, none⟩ = some (.int .i32 (zs.getD k 0)) := H.nums.cell hk

theorem cell_lt {W : World} {a : Addr} {v : Value} (h : W.cell? a = some v) : a.block < W.heap.size := by
  rcases Nat.lt_or_ge a.block W.heap.size with h' | h'
  · exact h'
  · simp [World.cell?, Array.getElem?_eq_none h'] at h
theorem i32_of_wf {x : Int} (h : (Lit.int .i32 x).wf = true) : -2147483648 ≤ x ∧ x ≤ 2147483647 := by
  simp [Lit.wf, IntKind.min, IntKind.max, IntKind.signed, IntKind.bits] at h
  exact ⟨by omega, by omega⟩
section
variable {H : Type} {enc : TypeId × Value → H}
theorem cells21 : Tryd.prog.cellsOf 21 = 1 := by kernel_rfl
/-- a slice of runes among the arguments -/
theorem open_sliceN {W : World} {base b0 : Nat} {held : Bool} {r : Reach} {v : Value} {d : DataW H} {p : List MemPlace} (hv : Value.okWide Tryd.prog W r b0 24 v) (h : DataW.Trod enc Tryd.prog W base (fun _ => true) held 24 v d p) :
    ∃ o n cap zs, v = .slice o n cap ∧ SliceN W o n cap zs := by
  obtain ⟨a, n, cap, rfl⟩ := okWide_slice Tryd.underlying24 hv
  obtain ⟨fuel, hf⟩ := h
  rcases open_ints Tryd.underlying24 Tryd.underlying21 cells21 hf with ⟨hcs, hx⟩ | ⟨a', len, cap', zs, hcs, _, hl, hm, hzl, hx, hcell, hwz⟩
  · simp [Value.cells] at hcs
    obtain ⟨rfl, rfl, rfl⟩ := hcs
    exact ⟨none, 0, 0, [], rfl, Nums.nil _ W, by simp⟩
  · simp [Value.cells] at hcs
    obtain ⟨rfl, rfl, rfl⟩ := hcs
    simp only [if_true] at hzl
    refine ⟨_, n, cap, zs.take n, rfl, ⟨by rw [List.length_take]; omega, hl, hm, ?_⟩, fun z hz => i32_of_wf (hwz z (List.mem_of_mem_take hz))⟩
    by_cases h0 : n = 0
    · exact .inl h0
    · right
      obtain ⟨b, off, rfl, hat⟩ := ints_at hcell (by omega)
      refine ⟨b, off, rfl, cell_lt (hat 0 (by omega)), fun k hk => ?_⟩
      rw [hat k (by omega)]
      simp only [List.getD, List.getElem?_take, if_pos hk]
end

/-- how many cells runes take, as an int counts -/
def tot (l : List Int) : Int := l.foldl (fun a r => wrap64 (a + wd r)) 0
theorem tot_snoc (l : List Int) (r : Int) : tot (l ++ [r]) = wrap64 (tot l + wd r) := by simp [tot]
theorem take_snoc (zs : List Int) (k : Nat) (h : k < zs.length) : zs.take (k + 1) = zs.take k ++ [zs.getD k 0] := by
  rw [List.take_succ_eq_append_getElem h]; simp [List.getD, h]

set_option maxHeartbeats 800000 in
theorem total_any (o : Option Addr) (n cap : Nat) (zs : List Int) (w : World) (hz : SliceN w o n cap zs) :
    Calls Tryd.prog 25 #[.slice o n cap] w fun e w' => e = .returned (.int .i64 (tot zs)) ∧ Below w.heap.size w w' := by
  have hmx : cap ≤ 9223372036854775807 := hz.max
  have hle := hz.le
  have HZ := Lib.hid hz; clear hz
  go_enter Tryd.func25, Tryd.ntmps25
  go_wp2_with fail
  go_loopg [3, 8] n (fun gg s3 s8 wr => ∃ (k : Nat) (T : Int), s8 = .int .i64 k ∧ s3 = .int .i64 T ∧ k ≤ n ∧ n - k ≤ gg ∧ Hid (T = tot (zs.take k)) ∧ Below w.heap.size w wr)
  case atStart => exact ⟨0, 0, rfl, rfl, Nat.zero_le _, by omega, Lib.hid rfl, Below.refl _ _⟩
  case round =>
    obtain ⟨k, T, rfl, rfl, hk, hgg, hT, hbel⟩ := hrel
    by_cases hlt : k < n
    · obtain ⟨b, off, rfl, hb, k0⟩ := (HZ.out.below hbel (Nat.le_refl _)).one (k := k) hlt
      have hnx : wrap64 (T + wd (zs.getD k 0)) = tot (zs.take (k + 1)) := by rw [take_snoc zs k (by rw [HZ.out.len]; exact hlt), tot_snoc, ← hT.out]
      generalize zs.getD k 0 = z at *
      have HNX := Lib.hid hnx; clear hnx
      go_wp2_with fail
      refine (width_any _ _).mono ?_
      rintro e w2 ⟨rfl, hb2⟩
      have hbel2 := hbel.trans (hb2.mono hbel.size)
      generalize wd z = d at *
      clear k0 hb
      go_wp2_with fail
      go_roundg (n - (k + 1))
      case measure => omega
      case rel => exact ⟨k + 1, wrap64 (T + d), by go_num, rfl, by omega, Nat.le_refl _, HNX, hbel2⟩
    · obtain rfl : k = n := by omega
      have e : zs.take k = zs := List.take_of_length_le (by rw [HZ.out.len]; exact Nat.le_refl _)
      have HTT := Lib.hid (show T = tot zs by rw [hT.out, e])
      go_wp2_with fail
      go_ret
      exact ⟨ret_int HTT.out, hbel⟩

set_option maxHeartbeats 800000 in
theorem refTotal_any (o : Option Addr) (n cap : Nat) (zs : List Int) (w : World) (hz : SliceN w o n cap zs) :
    Calls Tryd.prog 26 #[.slice o n cap] w fun e w' => e = .returned (.int .i64 (tot zs)) ∧ Below w.heap.size w w' := by
  have hmx : cap ≤ 9223372036854775807 := hz.max
  have hle := hz.le
  have HZ := Lib.hid hz; clear hz
  go_enter Tryd.func26, Tryd.ntmps26
  go_wp2_with fail
  go_loopg [3, 4] n (fun gg s3 s4 wr => ∃ (k : Nat) (T : Int), s4 = .int .i64 k ∧ s3 = .int .i64 T ∧ k ≤ n ∧ n - k ≤ gg ∧ Hid (T = tot (zs.take k)) ∧ Below w.heap.size w wr)
  case atStart => exact ⟨0, 0, rfl, rfl, Nat.zero_le _, by omega, Lib.hid rfl, Below.refl _ _⟩
  case round =>
    obtain ⟨k, T, rfl, rfl, hk, hgg, hT, hbel⟩ := hrel
    by_cases hlt : k < n
    · obtain ⟨b, off, rfl, hb, k0⟩ := (HZ.out.below hbel (Nat.le_refl _)).one (k := k) hlt
      have hkl : k < zs.length := by rw [HZ.out.len]; exact hlt
      have hnx : wrap64 (T + wd (zs.getD k 0)) = tot (zs.take (k + 1)) := by rw [take_snoc zs k hkl, tot_snoc, ← hT.out]
      have h32 := HZ.out.i32 (zs.getD k 0) (by simp [List.getD, hkl])
      generalize zs.getD k 0 = z at *
      have HNX := Lib.hid hnx; clear hnx hkl
      go_wp2_with fail
      refine (refWidth_any _ h32 _).mono ?_
      rintro e w2 ⟨rfl, rfl⟩
      generalize wd z = d at *
      clear k0 hb
      go_wp2_with fail
      go_roundg (n - (k + 1))
      case measure => omega
      case rel => exact ⟨k + 1, wrap64 (T + d), by go_num, rfl, by omega, Nat.le_refl _, HNX, hbel⟩
    · obtain rfl : k = n := by omega
      have e : zs.take k = zs := List.take_of_length_le (by rw [HZ.out.len]; exact Nat.le_refl _)
      have HTT := Lib.hid (show T = tot zs by rw [hT.out, e])
      go_wp2_with fail
      go_ret
      exact ⟨ret_int HTT.out, hbel⟩
end Go.Proofs.YtknkmfofjbpdbaaDoor
