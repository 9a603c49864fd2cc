/- The document's examples of layer 4 hold: alive returns true, in every memory in which the tables lie. -/
import Derived.Test.YtgkodjkhhmcnnaaDoorEscPG
import Derived.Test.YtgkodjkhhmcnnaaDoorEscInts
import Derived.Test.YtgkodjkhhmcnnaaDoorEscBytes
import Derived.KernelRfl
namespace Go.Proofs.YtgkodjkhhmcnnaaDoor
open Go.RowKit

theorem PTab.step {w w' : World} (h : PTab w) (hb : Below w.heap.size w w') : PTab w' := Lib.tabBelow_of_tabIs h w' hb
/-- what holds between the examples' calls: the acts so far lie where they lay -/
theorem ActsAt.inS {w : World} {B : Nat} {o : Option Addr} {n cap : Nat} {l : List es.Act} (h : ActsAt w B (.slice o n cap) l) : ActsIn w o n cap l ∧ (∀ a, o = some a → B ≤ a.block ∧ a.block < w.heap.size) := by
  obtain ⟨o', c', e, h1, h2⟩ := h.in_
  cases e
  exact ⟨h1, h2⟩
theorem ActsIn.ask {w : World} {o : Option Addr} {n cap : Nat} {l : List es.Act} (h : ActsIn w o n cap l) (b : Nat) (ho : o = some ⟨b, 0, none⟩) (k : Nat) (hk : k < n) : ∃ po pc, b < w.heap.size ∧ (∀ f, f < 7 → w.cell? ⟨b, k * 7 + f, none⟩ = (actC (l.getD k es.act0) po pc)[f]?) ∧ Nums .i64 w po (l.getD k es.act0).params.length pc (l.getD k es.act0).params := by
  obtain ⟨b', po, pc, h1, h2⟩ := h.at_ k hk
  rw [ho] at h1
  cases h1
  exact ⟨po, pc, h2⟩
theorem ActsIn.some {w : World} {o : Option Addr} {n cap : Nat} {l : List es.Act} (h : ActsIn w o n cap l) (h0 : 0 < n) : ∃ b, o = Option.some ⟨b, 0, none⟩ := by
  obtain ⟨b', po, pc, h1, h2⟩ := h.at_ 0 h0
  exact ⟨b', h1⟩
theorem ActsAt.next {w w' : World} {B p : Nat} {v : Value} {l : List es.Act} (h : ActsAt w B v l) (hk : Kept w w' (· = p)) (hp : p < B) : ActsAt w' B v l := h.keptP hk hp

theorem es.feed_ex1 : es.feed {} [97, 27, 91, 49, 59, 59, 53, 72] = ({}, [es.print 97, { kind := 4, final := 72, params := [1, -1, 5] }]) := by kernel_rfl
theorem es.feed_ex2 : es.feed {} [27, 93, 48, 59, 104, 105, 7] = ({}, [{ kind := 5, final := 93, text := [48, 59, 104, 105] }]) := by kernel_rfl
theorem es.feed_ex3 : es.feed {} [27, 40, 66] = ({}, [{ kind := 3, final := 66, inter := [40] }]) := by kernel_rfl
theorem es.feed_ex4 : es.feed {} [195, 27, 91, 109] = ({}, [es.print 65533, { kind := 4, final := 109 }]) := by kernel_rfl

set_option maxRecDepth 100000 in
set_option maxHeartbeats 3200000 in
theorem alive_any (w : World) (ht : UTabs w) (hp : PTab w) : Calls Tryd.prog 5 #[] w fun e w' => e = .returned (.bool true) ∧ Below w.heap.size w w' := by
  have HP := Lib.hid hp
  have hG := PG.new ht
  have hb0 := below_one w (.cells Tryd.zeroCells33 33)
  have hs0 : w.heap.size + 1 = (w.alloc (.cells Tryd.zeroCells33 33)).heap.size := by simp
  clear ht hp
  have HG0 := Lib.hid hG
  have HB0 := Lib.hid hb0
  clear hG hb0 hs0
  have HF := Lib.hid (feed_pgl w.heap.size {} [97, 27, 91, 49, 59, 59, 53, 72] (w.alloc (.cells Tryd.zeroCells33 33)) (w.heap.size + 1) (by simp) HG0.out (by simp))
  rw [es.feed_ex1] at HF
  have kc : (convert 34 34 (.slice (some ⟨(w.heap.size + 1), 0, none⟩) 8 8)).run Tryd.prog ((w.alloc (.cells Tryd.zeroCells33 33)).alloc (.cells #[.int .u8 97, .int .u8 27, .int .u8 91, .int .u8 49, .int .u8 59, .int .u8 59, .int .u8 53, .int .u8 72] 5)) = .ok (.slice (some ⟨(w.heap.size + 1), 0, none⟩) 8 8) ((w.alloc (.cells Tryd.zeroCells33 33)).alloc (litB [97, 27, 91, 49, 59, 59, 53, 72])) := conv_lit (w.alloc (.cells Tryd.zeroCells33 33)) [97, 27, 91, 49, 59, 59, 53, 72] (w.heap.size + 1) (by simp)
  go_enter Tryd.func5, Tryd.ntmps5
  go_wp2_with fail
  refine HF.out.mono ?_
  rintro e w1 ⟨o1, r1, rfl, hA1, hG1, hK1⟩
  clear HF kc
  have HS1 : Hid (w.heap.size < (w.alloc (.cells Tryd.zeroCells33 33)).heap.size) := Lib.hid (HG0.out.lt)
  have HB1 := Lib.hid (HB0.out.trans (hK1.below (B := w.heap.size) (by have := HS1.out; omega) (fun k hk => by omega)))
  have HA1 := Lib.hid hA1; have HG1 := Lib.hid hG1
  clear hA1 hG1 hK1 HG0 HB0
  have HF := Lib.hid (feed_pgl w.heap.size {} [27, 93, 48, 59, 104, 105, 7] w1 w1.heap.size rfl HG1.out (by simp))
  rw [es.feed_ex2] at HF
  have kc : (convert 34 34 (.slice (some ⟨w1.heap.size, 0, none⟩) 7 7)).run Tryd.prog (w1.alloc (.cells #[.int .u8 27, .int .u8 93, .int .u8 48, .int .u8 59, .int .u8 104, .int .u8 105, .int .u8 7] 5)) = .ok (.slice (some ⟨w1.heap.size, 0, none⟩) 7 7) (w1.alloc (litB [27, 93, 48, 59, 104, 105, 7])) := conv_lit w1 [27, 93, 48, 59, 104, 105, 7] w1.heap.size rfl
  go_wp2_with fail
  refine HF.out.mono ?_
  rintro e w2 ⟨o2, r2, rfl, hA2, hG2, hK2⟩
  clear HF kc
  replace HA1 := Lib.hid (HA1.out.next hK2 (by have := HS1.out; omega))
  have HS2 : Hid (w.heap.size < w1.heap.size) := Lib.hid (HG1.out.lt)
  have HB2 := Lib.hid (HB1.out.trans (hK2.below (B := w.heap.size) (by have := HS2.out; omega) (fun k hk => by omega)))
  have HA2 := Lib.hid hA2; have HG2 := Lib.hid hG2
  clear hA2 hG2 hK2 HG1 HB1
  have HF := Lib.hid (feed_pgl w.heap.size {} [27, 40, 66] w2 w2.heap.size rfl HG2.out (by simp))
  rw [es.feed_ex3] at HF
  have kc : (convert 34 34 (.slice (some ⟨w2.heap.size, 0, none⟩) 3 3)).run Tryd.prog (w2.alloc (.cells #[.int .u8 27, .int .u8 40, .int .u8 66] 5)) = .ok (.slice (some ⟨w2.heap.size, 0, none⟩) 3 3) (w2.alloc (litB [27, 40, 66])) := conv_lit w2 [27, 40, 66] w2.heap.size rfl
  go_wp2_with fail
  refine HF.out.mono ?_
  rintro e w3 ⟨o3, r3, rfl, hA3, hG3, hK3⟩
  clear HF kc
  replace HA1 := Lib.hid (HA1.out.next hK3 (by have := HS1.out; omega))
  replace HA2 := Lib.hid (HA2.out.next hK3 (by have := HS2.out; omega))
  have HS3 : Hid (w.heap.size < w2.heap.size) := Lib.hid (HG2.out.lt)
  have HB3 := Lib.hid (HB2.out.trans (hK3.below (B := w.heap.size) (by have := HS3.out; omega) (fun k hk => by omega)))
  have HA3 := Lib.hid hA3; have HG3 := Lib.hid hG3
  clear hA3 hG3 hK3 HG2 HB2
  have HF := Lib.hid (feed_pgl w.heap.size {} [195, 27, 91, 109] w3 w3.heap.size rfl HG3.out (by simp))
  rw [es.feed_ex4] at HF
  have kc : (convert 34 34 (.slice (some ⟨w3.heap.size, 0, none⟩) 4 4)).run Tryd.prog (w3.alloc (.cells #[.int .u8 195, .int .u8 27, .int .u8 91, .int .u8 109] 5)) = .ok (.slice (some ⟨w3.heap.size, 0, none⟩) 4 4) (w3.alloc (litB [195, 27, 91, 109])) := conv_lit w3 [195, 27, 91, 109] w3.heap.size rfl
  go_wp2_with fail
  refine HF.out.mono ?_
  rintro e w4 ⟨o4, r4, rfl, hA4, hG4, hK4⟩
  clear HF kc
  replace HA1 := Lib.hid (HA1.out.next hK4 (by have := HS1.out; omega))
  replace HA2 := Lib.hid (HA2.out.next hK4 (by have := HS2.out; omega))
  replace HA3 := Lib.hid (HA3.out.next hK4 (by have := HS3.out; omega))
  have HS4 : Hid (w.heap.size < w3.heap.size) := Lib.hid (HG3.out.lt)
  have HB4 := Lib.hid (HB3.out.trans (hK4.below (B := w.heap.size) (by have := HS4.out; omega) (fun k hk => by omega)))
  have HA4 := Lib.hid hA4; have HG4 := Lib.hid hG4
  clear hA4 hG4 hK4 HG3 HB3
  obtain ⟨hI1, _⟩ := HA1.out.inS
  obtain ⟨hI2, _⟩ := HA2.out.inS
  obtain ⟨hI3, _⟩ := HA3.out.inS
  obtain ⟨hI4, _⟩ := HA4.out.inS
  obtain ⟨b1, rfl⟩ := hI1.some (by simp)
  obtain ⟨b2, rfl⟩ := hI2.some (by simp)
  obtain ⟨b3, rfl⟩ := hI3.some (by simp)
  obtain ⟨b4, rfl⟩ := hI4.some (by simp)
  obtain ⟨p0, q0, l1, f1, _⟩ := hI1.ask b1 rfl 0 (by simp)
  obtain ⟨p1, q1, _, f2, n2⟩ := hI1.ask b1 rfl 1 (by simp)
  obtain ⟨p2, q2, l2, f3, _⟩ := hI2.ask b2 rfl 0 (by simp)
  obtain ⟨p3, q3, l3, f4, _⟩ := hI3.ask b3 rfl 0 (by simp)
  obtain ⟨p4, q4, l4, f5, _⟩ := hI4.ask b4 rfl 0 (by simp)
  obtain ⟨p5, q5, _, f6, _⟩ := hI4.ask b4 rfl 1 (by simp)
  have a1 : w4.cell? ⟨b1, 1, none⟩ = some (.int .i32 97) := f1 1 (by omega)
  have a2 : w4.cell? ⟨b1, 12, none⟩ = some (.slice p1 3 q1) := f2 5 (by omega)
  have a3 : w4.cell? ⟨b1, 9, none⟩ = some (.int .u8 72) := f2 2 (by omega)
  have a4 : w4.cell? ⟨b2, 6, none⟩ = some (.string ⟨#[48, 59, 104, 105]⟩) := f3 6 (by omega)
  have a5 : w4.cell? ⟨b2, 2, none⟩ = some (.int .u8 93) := f3 2 (by omega)
  have a6 : w4.cell? ⟨b3, 4, none⟩ = some (.string ⟨#[40]⟩) := f4 4 (by omega)
  have a7 : w4.cell? ⟨b4, 1, none⟩ = some (.int .i32 65533) := f5 1 (by omega)
  have a8 : w4.cell? ⟨b4, 7, none⟩ = some (.int .i64 4) := f6 0 (by omega)
  have n2' : Nums .i64 w4 p1 3 q1 [1, -1, 5] := n2
  have HS := Lib.hid (same_ints p1 3 q1 [1, -1, 5] (some ⟨w4.heap.size, 0, none⟩) 3 3 [1, -1, 5] (w4.alloc (.cells #[.int .i64 1, .int .i64 (-1), .int .i64 5] 3)) (n2'.below (below_one _ _)) (Nums.new (K := .i64) w4 3 [1, -1, 5] (by simp)))
  rw [show decide (([1, -1, 5] : List Int) = [1, -1, 5]) = true by decide] at HS
  have HQ : Hid (∀ X, Below w4.heap.size w4 X → X.cell? ⟨b1, 9, none⟩ = some (.int .u8 72) ∧ X.cell? ⟨b2, 6, none⟩ = some (.string ⟨#[48, 59, 104, 105]⟩) ∧ X.cell? ⟨b2, 2, none⟩ = some (.int .u8 93) ∧ X.cell? ⟨b3, 4, none⟩ = some (.string ⟨#[40]⟩) ∧ X.cell? ⟨b4, 1, none⟩ = some (.int .i32 65533) ∧ X.cell? ⟨b4, 7, none⟩ = some (.int .i64 4)) := Lib.hid (fun X hb =>
    ⟨(hb.cell (p := ⟨b1, 9, none⟩) l1).trans a3, (hb.cell (p := ⟨b2, 6, none⟩) l2).trans a4, (hb.cell (p := ⟨b2, 2, none⟩) l2).trans a5, (hb.cell (p := ⟨b3, 4, none⟩) l3).trans a6, (hb.cell (p := ⟨b4, 1, none⟩) l4).trans a7, (hb.cell (p := ⟨b4, 7, none⟩) l4).trans a8⟩)
  clear f1 f2 f3 f4 f5 f6 n2 n2' hI1 hI2 hI3 hI4 HA1 HA2 HA3 HA4 a3 a4 a5 a6 a7 a8 HS1 HS2 HS3 HS4
  go_wp2_with fail
  refine HS.out.mono ?_
  rintro e w5 ⟨rfl, nq, hw5⟩
  have hb5 : Below w4.heap.size w4 w5 := hw5 ▸ below_drewN (below_one w4 _) nq
  obtain ⟨a3, a4, a5, a6, a7, a8⟩ := HQ.out w5 hb5
  have HG5 := Lib.hid (HG4.out.below hb5)
  have HB5 := Lib.hid (HB4.out.trans (hb5.mono HB4.out.size))
  clear HQ HS hw5 hb5 a1 a2 HG4 HB4
  go_wp2_with fail
  refine HG5.out.idle.mono ?_
  rintro e w6 ⟨rfl, rfl⟩
  have HC := Lib.hid (csiB_any 63 104 [25] (some ⟨w5.heap.size, 0, none⟩) 1 1 (w5.alloc (.cells #[.int .i64 25] 3)) (nums_one w5 25 3) (by simp) ((HP.out.step HB5.out).step (below_one _ _)) (by omega))
  rw [show es.csiB 63 [25] 104 = [27, 91, 63, 50, 53, 104] by decide +kernel] at HC
  go_wp2_with fail
  refine HC.out.mono ?_
  rintro e w7 ⟨ro, rc, rfl, hO, hb7⟩
  obtain ⟨b9, off9, rfl, hlt9, hc9⟩ := Bts.byte (l := [27, 91, 63, 50, 53, 104]) hO.nums (by simp)
  have hcv := run_convert_bytes_arg w7 34 5 Tryd.underlying34 Tryd.underlying5 b9 off9 6 rc [27, 91, 63, 50, 53, 104] rfl (fun i hi => by rw [hc9 i hi]; match i, hi with
    | 0, _ => rfl
    | 1, _ => rfl
    | 2, _ => rfl
    | 3, _ => rfl
    | 4, _ => rfl
    | 5, _ => rfl) 9 Tryd.underlying9
  rw [show strOfNums [27, 91, 63, 50, 53, 104] = ⟨#[27, 91, 63, 50, 53, 104]⟩ by decide] at hcv
  have HB7 := Lib.hid (HB5.out.trans (((below_one w5 _).trans (hb7.mono (by simp))).mono HB5.out.size))
  clear hO hb7 hc9 HC
  go_wp2_with fail
  go_ret
  exact ⟨rfl, HB7.out⟩
end Go.Proofs.YtgkodjkhhmcnnaaDoor
