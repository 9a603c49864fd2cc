/- Rest: what waits, each byte as U+FFFD. -/
import Derived.Test.YtgkodjkhhmcnnaaDoorGlFeed
import Derived.Deep.OwnRows
namespace Go.Proofs.YtgkodjkhhmcnnaaDoor
open Go.RowKit
attribute [local go_sem ↓ 10000] run_slo_r

set_option maxRecDepth 100000 in
set_option maxHeartbeats 1600000 in
theorem mul_any (k : Nat) (w : World) (hk : k ≤ 3) : Calls Tryd.prog 89 #[.int .u64 1, .int .u64 k] w fun e w' => e = .returned (.tuple #[.int .u64 0, .int .u64 k]) ∧ w = w' := by
  obtain rfl | rfl | rfl | rfl : k = 0 ∨ k = 1 ∨ k = 2 ∨ k = 3 := by omega
  all_goals
    go_enter Tryd.func89, Tryd.ntmps89
    go_wp2
    go_ret2
    exact ⟨rfl, rfl⟩
theorem addr_b0 (b i : Nat) : (⟨b, 0, none⟩ : Addr).add i = ⟨b, i, none⟩ := by
  unfold Addr.add
  split <;> simp_all
/-- a row of k numbers in block b, the first j of which are U+FFFD -/
structure RepAt (w : World) (b k j : Nat) (cur : Array Value) : Prop where
  at_ : w.heap[b]? = some (.cells cur 21 (0, 0))
  size : cur.size = k
  all : ∀ i, i < j → cur[i]? = some (.int .i32 65533)
theorem RepAt.copied {w : World} {b k j : Nat} {cur : Array Value} (h : RepAt w b k j cur) (hj : j ≤ k) (a : Addr) (m c1 c2 : Nat) (hs : ∀ i, i < m → w.cell? (a.add i) = some (.int .i32 65533)) :
    ∃ cur', (∀ ty, (Builtin.copy_ #[69, 69] ty #[.slice (some ⟨b, j, none⟩) (k - j) c1, .slice (some a) m c2]).run Tryd.prog w = .ok (.int .i64 ((min m (k - j) : Nat) : Int)) (w.setRow b cur')) ∧ RepAt (w.setRow b cur') b k (j + min m (k - j)) cur' := by
  obtain ⟨i0, hi, hz0, hz1, hz2⟩ := info_parts infoR
  have hsz : (Tryd.prog.info? 21).map (·.size) = some 1 := by rw [hi]; simp [hz1]
  have hks := h.size
  have hlen : (List.replicate (min m (k - j)) (Value.int .i32 65533)).length = min m (k - j) := by simp
  have hr := fun ty => run_copy_row (P := Tryd.prog) w 69 69 ty 21 b j (k - j) c1 a m c2 cur 21 (List.replicate (min m (k - j)) (Value.int .i32 65533)) Tryd.underlying69 hsz h.at_ hlen
    (fun i v hv => by
      have hi' := (List.getElem?_eq_some_iff.1 hv).1
      rw [hlen] at hi'
      rw [hs i (by omega), ← hv, List.getElem?_replicate, if_pos hi']) (by rw [hlen]; omega) (fun v hv => by rw [List.mem_replicate] at hv; rw [hv.2]; rfl)
  rw [hlen] at hr
  refine ⟨_, fun ty => hr ty, setRow_heap w b cur _ 21 (0, 0) h.at_, ?_, fun i hi' => ?_⟩
  · simp; omega
  · have hl : (cur.toList.take j).length = j := by simp; omega
    simp only [List.getElem?_toArray]
    rw [List.append_assoc]
    by_cases h2 : i < j
    · rw [List.getElem?_append_left (by rw [hl]; exact h2), List.getElem?_take, if_pos h2]
      have := h.all i h2
      simpa using this
    · rw [List.getElem?_append_right (by rw [hl]; omega), hl, List.getElem?_append_left (by rw [hlen]; omega), List.getElem?_replicate, if_pos (by omega)]
theorem RepAt.own {w : World} {b k B : Nat} {cur : Array Value} (h : RepAt w b k k cur) (hB : B ≤ b) (hk : k ≤ 3) : Own w B 21 .i32 (some ⟨b, 0, none⟩) k k (List.replicate k 65533) := by
  refine ⟨by simp, .inr ⟨b, k, cur, rfl, hB, h.at_, Nat.le_refl _, by unfold maxLen; omega, by rw [h.size, Nat.mul_one], ?_⟩⟩
  apply List.ext_getElem?
  intro i
  have hks := h.size
  rw [Nat.mul_one, List.getElem?_take]
  by_cases hi : i < k
  · rw [if_pos hi]
    have := h.all i hi
    simp [cs, hi] at this ⊢
    exact this
  · rw [if_neg hi]
    simp [cs]
    omega
theorem rep_new (w : World) (k : Nat) : RepAt (w.alloc (.cells (madeCells #[Value.int .i32 0] k) 21)) w.heap.size k 0 (madeCells #[Value.int .i32 0] k) :=
  ⟨heap_alloc_new w _, size_madeCells _ _, fun i hi => by omega⟩
theorem below_row {B b : Nat} {w wr : World} (h : Below B w wr) (hB : B ≤ b) (cur : Array Value) : Below B w (wr.setRow b cur) := below_setRow h hB cur
set_option maxRecDepth 100000 in
theorem run_shi_r (o : Option Addr) (n cap l : Nat) (hl : l ≤ n) (hle : n ≤ cap) (k : IntKind) (wx : World) : (Instr.slice 69 (.slice o n cap) none (some (.int k (l : Int))) none).run Tryd.prog wx = .ok (.slice o l cap) wx := by
  rw [run_slice_h wx 69 o n cap Tryd.underlying69 k l (by omega) (by omega)]
  have hz : (sizeOf (Tryd.prog.elem 69)).run Tryd.prog wx = .ok 1 wx := by kernel_rfl
  rw [hz]
  have e : (fun x : Addr => x.add 0) = id := funext addr_add0
  simp [Result.andThen, sliced, e]
set_option maxRecDepth 100000 in
set_option maxHeartbeats 1600000 in
theorem repeat_any (g : Nat) (k : Nat) (w : World) (hk : k ≤ 3) (hc : w.cell? ⟨g, 0, none⟩ = some (.int .i32 65533)) :
    Calls Tryd.prog 78 #[.slice (some ⟨g, 0, none⟩) 1 1, .int .i64 k] w fun e w' => ∃ o cap, e = .returned (.slice o k cap) ∧ Own w' w.heap.size 21 .i32 o k cap (List.replicate k 65533) ∧ Below w.heap.size w w' := by
  have hki : (k : Int) ≤ 3 := by omega
  have hk0 : (0 : Int) ≤ (k : Int) := by omega
  have hlc : g < w.heap.size := World.block_lt_of_cell? w _ hc
  have hmk := run_make_row' (P := Tryd.prog) 69 21 (Value.int .i32 0) 4 Tryd.underlying69 infoR rfl .i64 .i64 k (by omega) (by omega) w
  have hR0 := rep_new w k
  have hB0 := (Below.refl w.heap.size w).alloc (Nat.le_refl _) (.cells (madeCells #[Value.int .i32 0] k) 21)
  generalize madeCells #[Value.int .i32 0] k = cur0 at *
  generalize hw1 : w.alloc (.cells cur0 21) = wa at *
  obtain ⟨cur1, hcp, hR1⟩ := hR0.copied (Nat.zero_le _) ⟨g, 0, none⟩ 1 k 1 (fun i hi => by
    obtain rfl : i = 0 := by omega
    exact (hB0.cell (p := ⟨g, 0, none⟩) hlc).trans hc)
  rw [Nat.sub_zero, Nat.zero_add] at *
  obtain ⟨q1, hq1⟩ : ∃ q, min 1 k = q := ⟨_, rfl⟩
  rw [hq1] at hcp hR1
  have hq1k : q1 ≤ k := by omega
  have hq1p : 0 < k → 0 < q1 := by omega
  clear hq1
  have HR1 := Lib.hid hR1
  have HB1 := Lib.hid (below_row hB0 (Nat.le_refl _) cur1)
  have HC := Lib.hid hc
  clear hc hR0 hB0 hR1 hlc hw1
  go_enter Tryd.func78, Tryd.ntmps78
  go_wp2_with fail
  refine (mul_any k w hk).mono ?_
  rintro e w1 ⟨rfl, rfl⟩
  go_wp2_with fail
  generalize wa.setRow w.heap.size cur1 = wo at *
  clear hcp hmk
  generalize hb : w.heap.size = b at *
  go_loopg [8] k (fun gg s8 wr => ∃ j : Nat, s8 = .int .i64 j ∧ j ≤ k ∧ k - j ≤ gg ∧ (0 < k → 0 < j) ∧ Hid (∃ cur, RepAt wr b k j cur) ∧ Hid (Below b w wr))
  case atStart => exact ⟨q1, rfl, hq1k, by omega, hq1p, Lib.hid ⟨cur1, HR1.out⟩, HB1⟩
  case round =>
    obtain ⟨j, rfl, hjk, hgg, hj0, HR, HB⟩ := hrel
    obtain ⟨cur, hR⟩ := HR.out
    clear HR HR1 HB1 hq1k hq1p
    by_cases hlt : j < k
    · have hji : (j : Int) < (k : Int) := by omega
      have hjk' : (j : Int) ≤ (k : Int) := by omega
      have hRd : RepAt wr.drew b k j cur := ⟨hR.at_, hR.size, hR.all⟩
      obtain ⟨cur2, hcp2, hR2⟩ := hRd.copied hjk ⟨b, 0, none⟩ j (k - j) k (fun i hi => by
        rw [addr_b0, cell_of_heap hRd.at_]
        exact hR.all i hi)
      have hslo : slo (some ⟨b, 0, none⟩) k j = some ⟨b, j, none⟩ := by rw [slo, if_neg (by omega)]; simp [addr_b0]
      rw [← hslo] at hcp2
      have hshi := run_shi_r (some ⟨b, 0, none⟩) k k j hjk (Nat.le_refl _)
      obtain ⟨q, hq⟩ : ∃ q, min j (k - j) = q := ⟨_, rfl⟩
      rw [hq] at hcp2 hR2
      have hqp : 1 ≤ q := by have := hj0 (by omega); omega
      have hqk : j + q ≤ k := by omega
      have HR2 := Lib.hid hR2
      have HB2 := Lib.hid (below_row HB.out.drew (Nat.le_refl _) cur2)
      clear hR hRd hR2 hq hslo hj0
      have hwr : IntKind.i64.wrap ((j : Int) + (q : Int)) = ((j + q : Nat) : Int) := by rw [IntKind.wrap_i64]; omega
      go_wp2_with fail
      go_region_with fail
      all_goals
        go_wp2_with fail
        go_roundg (k - (j + q))
        case measure => omega
        case rel => exact ⟨j + q, rfl, hqk, Nat.le_refl _, fun _ => by omega, Lib.hid ⟨cur2, HR2.out⟩, HB2⟩
    · obtain rfl : j = k := by omega
      have hO := hR.own (Nat.le_refl b) hk
      have HO := Lib.hid hO
      clear hR hO
      go_wp2_with fail
      go_ret
      exact ⟨_, _, rfl, by rw [hb]; exact HO.out, by rw [hb]; exact HB.out⟩
end Go.Proofs.YtgkodjkhhmcnnaaDoor
