/- The document's examples of layer 1 hold: alive returns true, in every memory in which the two tables lie. -/
import Derived.Test.YtknkmfofjbpdbaaDoorGlRunes
import Derived.Test.YtknkmfofjbpdbaaDoorGlCut
import Derived.Test.YtknkmfofjbpdbaaDoorGlBytes
import Derived.Test.YtknkmfofjbpdbaaDoorGlWaits
import Derived.Test.YtknkmfofjbpdbaaDoorGlSame
namespace Go.Proofs.YtknkmfofjbpdbaaDoor
open Go.RowKit

/-- a number of 64 bits -/
def I64 (x : Int) : Prop := -9223372036854775808 ≤ x ∧ x ≤ 9223372036854775807
/-- bytes that are written out: their row bears the run-time's mark -/
abbrev litB (l : List UInt8) : Obj := .cells ((u8s l).map (Value.int .u8)).toArray 5 (l.length, l.length + 1)
theorem bts_new (W : World) (l : List UInt8) (h : l.length ≤ 1000) (n : Nat) (hn : W.heap.size = n) : Bts (W.alloc (litB l)) (some ⟨n, 0, none⟩) l.length l.length l := by
  subst hn
  refine ⟨u8s_len l, Nat.le_refl _, by unfold maxLen; omega, .inr ⟨W.heap.size, 0, rfl, by simp, fun k hk => ?_⟩⟩
  rw [World.cell?_alloc_mark]
  have hk' : k < (u8s l).length := by rw [u8s_len]; exact hk
  simp [hk']
theorem conv_lit (W : World) (l : List UInt8) (n : Nat) (hn : W.heap.size = n) : (convert 22 22 (.slice (some ⟨n, 0, none⟩) l.length l.length)).run Tryd.prog (W.alloc (.cells ((u8s l).map (Value.int .u8)).toArray 5)) = .ok (.slice (some ⟨n, 0, none⟩) l.length l.length) (W.alloc (litB l)) := by
  have h := Go.Joins.run_convert_bytes_const_at (P := Tryd.prog) W 22 5 ((u8s l).map (Value.int .u8)).toArray l.length l.length n hn.symm Tryd.underlying22 Tryd.underlying5
  rw [h]
  simp [litB, u8s_len]
theorem sliceN_new (W : World) (T : TypeId) (l : List Int) (h : l.length ≤ 1000) (h32 : ∀ z ∈ l, -2147483648 ≤ z ∧ z ≤ 2147483647) (n : Nat) (hn : W.heap.size = n) : SliceN (W.alloc (.cells (l.map (Value.int .i32)).toArray T)) (some ⟨n, 0, none⟩) l.length l.length l := by
  subst hn
  exact ⟨Nums.new (K := .i32) W T l h, h32⟩
theorem below_one (W : World) (o : Obj) : Below W.heap.size W (W.alloc o) := (Below.refl _ _).alloc (Nat.le_refl _) o

/-- a Reader's feed by bytes that are written out -/
theorem feed_lit (p : Nat) (l bs : List UInt8) (cur : Array Value) (t : TypeId) (W : World) (n : Nat) (hn : W.heap.size = n) (hr : RdAt W p 0 l cur t) (ht : UTabs W) (hl : bs.length ≤ 1000) :
    Calls Tryd.prog 16 #[.pointer (some ⟨p, 0, none⟩), .slice (some ⟨n, 0, none⟩) bs.length bs.length] (W.alloc (litB bs)) fun e w' => ∃ ro m rc cur', e = .returned (.slice ro m rc) ∧ Own w' W.heap.size 21 .i32 ro m rc (gl.read (l ++ bs)).1 ∧ RdAt w' p 0 (gl.read (l ++ bs)).2 cur' t ∧ Kept W w' (· = p) := by
  have hb := below_one W (litB bs)
  refine (feed_any p 0 l bs cur t _ _ _ _ (hr.below hb hr.lt) (bts_new W bs hl n hn) (ht.step hb) (by omega)).mono ?_
  rintro e w' ⟨ro, m, rc, cur', rfl, h1, h2, h3, h4, h5⟩
  exact ⟨ro, m, rc, cur', rfl, h1.base hb.size, h2, (Kept.of_below hb (· = p)).trans h5 (fun _ _ h => h)⟩

set_option maxRecDepth 100000 in
set_option maxHeartbeats 3200000 in
theorem alive_any (w : World) (ht : UTabs w) : Calls Tryd.prog 11 #[] w fun e w' => e = .returned (.bool true) ∧ Below w.heap.size w w' := by
  have hb0 := below_one w (.cells rd0 31)
  have HT := Lib.hid ht
  have HF := Lib.hid (feed_lit w.heap.size [] [228, 184] rd0 31 (w.alloc (.cells rd0 31)) (w.heap.size + 1) (by simp) (rdAt_new w _) (ht.step hb0) (by simp))
  clear ht
  have kc : (convert 22 22 (.slice (some ⟨w.heap.size + 1, 0, none⟩) 2 2)).run Tryd.prog ((w.alloc (.cells rd0 31)).alloc (.cells #[.int .u8 228, .int .u8 184] 5)) = .ok (.slice (some ⟨w.heap.size + 1, 0, none⟩) 2 2) ((w.alloc (.cells rd0 31)).alloc (litB [228, 184])) := conv_lit (w.alloc (.cells rd0 31)) [228, 184] (w.heap.size + 1) (by simp)
  go_enter Tryd.func11, Tryd.ntmps11
  go_wp2_with fail
  refine HF.out.mono ?_
  rintro e w1 ⟨ro, m, rc, cur1, rfl, hO1, hR1, hK1⟩
  rw [show gl.read ([] ++ [228, 184]) = (([] : List Int), [228, 184]) by decide] at hO1 hR1
  obtain rfl : m = 0 := by have := hO1.len; simpa using this.symm
  have hb1 := hb0.trans (hK1.below (B := w.heap.size) (by simp) (fun k hk => by omega))
  have HR1 := Lib.hid hR1; have HB1 := Lib.hid hb1
  clear hb0 hO1 hR1 hK1 hb1 HF kc
  go_wp2_with fail
  refine (waits_any _ _ _ _ _ _ HR1.out).mono ?_
  rintro e w2 ⟨rfl, rfl⟩
  have HF := Lib.hid (feed_lit w.heap.size [228, 184] [173] cur1 31 w1 w1.heap.size rfl HR1.out (HT.out.step HB1.out) (by simp))
  have kc : (convert 22 22 (.slice (some ⟨w1.heap.size, 0, none⟩) 1 1)).run Tryd.prog (w1.alloc (.cells #[.int .u8 173] 5)) = .ok (.slice (some ⟨w1.heap.size, 0, none⟩) 1 1) (w1.alloc (litB [173])) := conv_lit w1 [173] w1.heap.size rfl
  go_wp2_with fail
  refine HF.out.mono ?_
  rintro e w2 ⟨ro2, m2, rc2, cur2, rfl, hO2, hR2, hK2⟩
  rw [show gl.read ([228, 184] ++ [173]) = ([20013], ([] : List UInt8)) by decide] at hO2 hR2
  obtain rfl : m2 = 1 := by have := hO2.len; simpa using this.symm
  have hb2 := HB1.out.trans (hK2.below (B := w.heap.size) HB1.out.size (fun k hk => by omega))
  obtain ⟨b2, off2, rfl, hlt2, hc2⟩ := hO2.nums.cell (k := 0) (by omega)
  have HR2 := Lib.hid hR2; have HB2 := Lib.hid hb2
  clear hO2 hR2 hK2 hb2 HF HR1 kc
  have HC := Lib.hid (cut_any _ _ _ [97, 20013, 98] 2 _ (sliceN_new w2 21 [97, 20013, 98] (by simp) (by simp) _ rfl) (by simp))
  rw [show cutK [97, 20013, 98] 2 0 = 1 by decide] at HC
  rw [show sumW (([97, 20013, 98] : List Int).take 1) = 1 by decide] at HC
  go_wp2_with fail
  refine HC.out.mono ?_
  rintro e w3 ⟨ro3, rc3, rfl, hO3, hb3⟩
  have hb3' := (below_one w2 _).trans (hb3.mono (by simp))
  have hc3 : w3.cell? ⟨b2, off2, none⟩ = some (.int .i32 20013) := (hb3'.cell (p := ⟨b2, off2, none⟩) hlt2).trans (by simpa using hc2)
  have HR3 := Lib.hid (HR2.out.below hb3' HR2.out.lt)
  have HB3 := Lib.hid (HB2.out.trans (hb3'.mono HB2.out.size))
  have hlt3 : b2 < w3.heap.size := Nat.lt_of_lt_of_le hlt2 hb3'.size
  clear hO3 hb3 hb3' hc2 hlt2 HC HR2
  have kc : (convert 22 22 (.slice (some ⟨w3.heap.size, 0, none⟩) 4 4)).run Tryd.prog (w3.alloc (.cells #[.int .u8 97, .int .u8 255, .int .u8 195, .int .u8 169] 5)) = .ok (.slice (some ⟨w3.heap.size, 0, none⟩) 4 4) (w3.alloc (litB [97, 255, 195, 169])) := conv_lit w3 [97, 255, 195, 169] w3.heap.size rfl
  have hB3' := below_one w3 (litB [97, 255, 195, 169])
  have HC := Lib.hid (runes_any _ _ _ [97, 255, 195, 169] _ (bts_new w3 [97, 255, 195, 169] (by simp) _ rfl) ((HT.out.step HB3.out).step hB3') (by simp))
  rw [show gl.runes [97, 255, 195, 169] = [97, 65533, 233] by decide] at HC
  clear hB3'
  go_wp2_with fail
  refine HC.out.mono ?_
  rintro e w4 ⟨ro4, m4, rc4, rfl, hO4, hb4⟩
  obtain rfl : m4 = 3 := by have := hO4.len; simpa using this.symm
  have hb4' := (below_one w3 _).trans (hb4.mono (by simp))
  have hc4 : w4.cell? ⟨b2, off2, none⟩ = some (.int .i32 20013) := (hb4'.cell (p := ⟨b2, off2, none⟩) hlt3).trans hc3
  have HR4 := Lib.hid (HR3.out.below hb4' HR3.out.lt)
  have HB4 := Lib.hid (HB3.out.trans (hb4'.mono HB3.out.size))
  have hlt4 : b2 < w4.heap.size := Nat.lt_of_lt_of_le hlt3 hb4'.size
  have HS := Lib.hid (same_runes ro4 3 rc4 [97, 65533, 233] _ 3 3 [97, 65533, 233] _ (hO4.nums.below (below_one w4 _)) (sliceN_new w4 21 [97, 65533, 233] (by simp) (by simp) _ rfl).nums)
  rw [show decide (([97, 65533, 233] : List Int) = [97, 65533, 233]) = true by decide] at HS
  clear hO4 hb4 hb4' hc3 hlt3 HC HR3 kc
  go_wp2_with fail
  refine HS.out.mono ?_
  rintro e w5 ⟨rfl, nq, hw5⟩
  have hb5' : Below w4.heap.size w4 w5 := hw5 ▸ below_drewN (below_one w4 _) nq
  have hc5 : w5.cell? ⟨b2, off2, none⟩ = some (.int .i32 20013) := (hb5'.cell (p := ⟨b2, off2, none⟩) hlt4).trans hc4
  have HR5 := Lib.hid (HR4.out.below hb5' HR4.out.lt)
  have HB5 := Lib.hid (HB4.out.trans (hb5'.mono HB4.out.size))
  clear hb5' hc4 hlt4 HS HR4 hw5
  have HC := Lib.hid (fun W => width_any 20013 W)
  rw [show wd 20013 = 2 by decide] at HC
  go_wp2_with fail
  refine (HC.out _).mono ?_
  rintro e w6 ⟨rfl, hb6⟩
  have HR6 := Lib.hid (HR5.out.below hb6 HR5.out.lt)
  have HB6 := Lib.hid (HB5.out.trans (hb6.mono HB5.out.size))
  clear hb6 hc5 HC HR5
  have HC := Lib.hid (total_any _ _ _ [97, 20013] _ (sliceN_new w6 21 [97, 20013] (by simp) (by simp) _ rfl))
  rw [show tot [97, 20013] = 3 by rw [tot_eq _ (by simp)]; decide] at HC
  go_wp2_with fail
  refine HC.out.mono ?_
  rintro e w7 ⟨rfl, hb7⟩
  have hb7' := (below_one w6 _).trans (hb7.mono (by simp))
  have HR7 := Lib.hid (HR6.out.below hb7' HR6.out.lt)
  have HB7 := Lib.hid (HB6.out.trans (hb7'.mono HB6.out.size))
  clear hb7 hb7' HC HR6
  have HC := Lib.hid (rest_any _ _ _ _ _ _ HR7.out)
  rw [List.length_nil] at HC
  go_wp2_with fail
  refine HC.out.mono ?_
  rintro e w8 ⟨ro8, rc8, cur8, rfl, _, _, _, _, hK8⟩
  have HB8 := Lib.hid (HB7.out.trans (hK8.below (B := w.heap.size) HB7.out.size (fun k hk => by omega)))
  clear hK8 HC HR7
  have HC := Lib.hid (bytes_any _ _ _ [233] _ (sliceN_new w8 21 [233] (by simp) (by simp) _ rfl) (by simp))
  rw [show encs [233] = [195, 169] by decide] at HC
  go_wp2_with fail
  refine HC.out.mono ?_
  rintro e w9 ⟨ro9, m9, rc9, rfl, hO9, hb9⟩
  obtain rfl : m9 = 2 := by have := hO9.len; simpa [u8s] using this.symm
  obtain ⟨b9, off9, rfl, hlt9, hc9⟩ := Bts.byte (l := [195, 169]) hO9.nums (by omega)
  have hcv := run_convert_bytes_arg w9 22 5 Tryd.underlying22 Tryd.underlying5 b9 off9 2 rc9 [195, 169] rfl (fun i hi => by rw [hc9 i hi]; match i, hi with
    | 0, _ => rfl
    | 1, _ => rfl) 9 Tryd.underlying9
  rw [show strOfNums [195, 169] = ⟨#[195, 169]⟩ by decide] at hcv
  have HB9 := Lib.hid (HB8.out.trans (((below_one w8 _).trans (hb9.mono (by simp))).mono HB8.out.size))
  clear hO9 hb9 hc9 HC
  go_wp2_with fail
  go_ret
  exact ⟨rfl, HB9.out⟩
end Go.Proofs.YtknkmfofjbpdbaaDoor
