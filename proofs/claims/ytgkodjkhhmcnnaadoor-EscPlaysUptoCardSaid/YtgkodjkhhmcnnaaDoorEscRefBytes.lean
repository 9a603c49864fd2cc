/- The document's parser, sixth part: a byte outside of strings. The document's parser, seventh part: bytes that are no controls, outside of strings. The document's parser, eighth part: bytes on the ground. The document's parser, ninth part: the other controls outside of strings. The document's parser, tenth part: a byte in a string; every byte. The document's parser, eleventh part: every byte. What bytes leave small. -/
import Derived.Test.YtgkodjkhhmcnnaaDoorEscRefSB
import Derived.Test.YtgkodjkhhmcnnaaDoorGlRefFeed
import Derived.Deep.RegionLaw
import Derived.Maps.AppendAt
namespace Go.Proofs.YtgkodjkhhmcnnaaDoor
open Go.RowKit
/-- bytes that break off, an escape, and the delete -/
def rf.breaks (c : UInt8) : Prop := c.toNat = 24 ∨ c.toNat = 26 ∨ c.toNat = 27 ∨ c.toNat = 127
set_option maxRecDepth 100000 in
set_option maxHeartbeats 1600000 in
theorem refByteBreak_any (v : Value) (s : rf.St) (c : UInt8) (w : World) (h : StW w v s) (hs : s.inn ≠ 3 ∧ s.inn ≠ 4) (hn2 : s.wait.length ≤ 1000) (hc : rf.breaks c) :
    Calls Tryd.prog 20 #[v, .int .u8 c.toNat] w (Said2 (rf.byte0 s c).1 (rf.byte0 s c).2 w) := by
  unfold rf.breaks at hc
  obtain ⟨wo, wn, wq, go, gn, gc, rfl, hw8, hg8⟩ := h
  have hw := hw8.b; have hg := hg8.b
  have HW8 := Lib.hid hw8; have HG8 := Lib.hid hg8
  clear hw8 hg8
  have hgl := hg.size
  have HW := Lib.hid hw; have HG := Lib.hid hg
  have HS := Lib.hid (S2.new w #[.int .i64 s.inn, .slice wo wn wq, .slice go gn gc, .int .u8 s.sign] #[.int .i64 0, .slice none 0 0, .slice none 0 0, .int .u8 0])
  clear hw hg
  have h3i : ((s.inn : Int) == 3) = false := by simp; omega
  have h4i : ((s.inn : Int) == 4) = false := by simp; omega
  generalize hcq : c.toNat = q at *
  have HQ := Lib.hid hcq
  clear hcq
  go_enter Tryd.func20, Tryd.ntmps20
  go_upto_region 1 with fail
  generalize (w.alloc (.cells #[.int .i64 s.inn, .slice wo wn wq, .slice go gn gc, .int .u8 s.sign] 36)).alloc (.cells #[.int .i64 0, .slice none 0 0, .slice none 0 0, .int .u8 0] 36) = w0 at *
  have hr := HS.out.a0
  have sd0 : w0.cell? ⟨w.heap.size, 0, none⟩ = some (.int .i64 s.inn) := (cell_of_heap hr).trans rfl
  clear hr
  have HSE := Lib.hid (HS.out.below (below_one w0 (.cells #[] 45)))
  have HAE := Lib.hid (GA.start w0).acts
  have HLT0 := Lib.hid (And.intro HS.out.lt (show (w0.alloc (.cells #[] 45)).heap.size = w0.heap.size + 1 by simp))
  go_upto_region 4 with fail
  generalize w0.alloc (.cells #[] 45) = wE at *
  clear HS sd0
  rcases hc with hc | hc | hc | hc
  · subst hc
    have HE : Hid (rf.byte0 s c = ({}, rf.rest s)) := Lib.hid (by unfold rf.byte0; simp [HQ.out])
    go_upto_if 28 with fail
    have HLT : Hid (w.heap.size + 1 < wE.heap.size) := Lib.hid (by have := HLT0.out; omega)
    have hr := HSE.out.a0
    have sd0 : wE.cell? ⟨w.heap.size, 0, none⟩ = some (.int .i64 s.inn) := (cell_of_heap hr).trans rfl
    have sd1 : wE.cell? ⟨w.heap.size, 1, none⟩ = some (.slice wo wn wq) := (cell_of_heap hr).trans rfl
    have sd2 : wE.cell? ⟨w.heap.size, 2, none⟩ = some (.slice go gn gc) := (cell_of_heap hr).trans rfl
    have sd3 : wE.cell? ⟨w.heap.size, 3, none⟩ = some (.int .u8 s.sign) := (cell_of_heap hr).trans rfl
    clear hr
    go_wp2_with fail
    refine (refRest_any s.inn wo wn wq s.wait _ go gn gc s.sign wE rfl (HW.out.below HSE.out.bel) (by have := HW.out.size; omega)).mono ?_
    rintro e w1 ⟨V, rfl, hA, hB⟩
    have HS1 := Lib.hid (HSE.out.below hB)
    have HA1 := Lib.hid hA
    have hr := HS1.out.a0
    have td1 : w1.cell? ⟨w.heap.size, 1, none⟩ = some (.slice wo wn wq) := (cell_of_heap hr).trans rfl
    have te1 : w1.frozen? ⟨w.heap.size, 1, none⟩ = false := by simp [World.frozen?, hr]
    clear hr hA hB sd0 sd1 sd2 sd3
    obtain ⟨w2, hw2⟩ : ∃ w2, w2 = w1.setCell ⟨w.heap.size, 1, none⟩ (.slice none 0 0) := ⟨_, rfl⟩
    have HS2 : Hid (S2 w w2 #[.int .i64 s.inn, .slice none 0 0, .slice go gn gc, .int .u8 s.sign] #[.int .i64 0, .slice none 0 0, .slice none 0 0, .int .u8 0]) := Lib.hid (by rw [hw2]; exact HS1.out.setWait)
    have hk2 : Kept w1 w2 (· = w.heap.size) := by rw [hw2]; exact (Kept.refl w1 (· = w.heap.size)).setCell (p := ⟨w.heap.size, 1, none⟩) (fun _ => rfl) _
    have HA2 : Hid (ActsAt w2 wE.heap.size V (rf.rest s)) := Lib.hid (HA1.out.keptP hk2 (by have := HLT.out; omega))
    clear hk2
    go_upto_region 7 with fail
    rw [← hw2]
    clear hw2 td1 te1 HA1 HS1 HSE HAE
    have hq := HS2.out.a1
    have zd0 : w2.cell? ⟨w.heap.size + 1, 0, none⟩ = some (.int .i64 0) := (cell_of_heap hq).trans rfl
    have ze0 : w2.frozen? ⟨w.heap.size + 1, 0, none⟩ = false := by simp [World.frozen?, hq]
    have zd1 : w2.cell? ⟨w.heap.size + 1, 1, none⟩ = some (.slice none 0 0) := (cell_of_heap hq).trans rfl
    have ze1 : w2.frozen? ⟨w.heap.size + 1, 1, none⟩ = false := by simp [World.frozen?, hq]
    have zd2 : w2.cell? ⟨w.heap.size + 1, 2, none⟩ = some (.slice none 0 0) := (cell_of_heap hq).trans rfl
    have ze2 : w2.frozen? ⟨w.heap.size + 1, 2, none⟩ = false := by simp [World.frozen?, hq]
    have zd3 : w2.cell? ⟨w.heap.size + 1, 3, none⟩ = some (.int .u8 0) := (cell_of_heap hq).trans rfl
    have ze3 : w2.frozen? ⟨w.heap.size + 1, 3, none⟩ = false := by simp [World.frozen?, hq]
    obtain ⟨hg4, hk4⟩ := store4 hq (.int .i64 0) (.slice none 0 0) (.slice none 0 0) (.int .u8 0)
    have H4 := Lib.hid (And.intro hg4 (And.intro (HS2.out.bel.trans (hk4.below HS2.out.bel.size (fun k hk => by omega))) ((HA2.out.keptP hk4 HLT.out).base_le (by have := HLT.out; omega : w.heap.size ≤ wE.heap.size))))
    clear hg4 hk4 hq
    go_wp2_with fail
    refine bodyPost_ret (results_row_tmp rfl _ _ (w.heap.size + 1) 36 _ (0, 0) _ rfl H4.out.1 Tryd.underlying36 rfl (by kernel_rfl)) rfl ?_
    rw [HE.out]
    exact ⟨_, _, rfl, ⟨_, _, _, _, _, _, rfl, B8.nil _, B8.nil _⟩, H4.out.2.2, H4.out.2.1⟩
  · subst hc
    have HE : Hid (rf.byte0 s c = ({}, rf.rest s)) := Lib.hid (by unfold rf.byte0; simp [HQ.out])
    go_upto_if 28 with fail
    have HLT : Hid (w.heap.size + 1 < wE.heap.size) := Lib.hid (by have := HLT0.out; omega)
    have hr := HSE.out.a0
    have sd0 : wE.cell? ⟨w.heap.size, 0, none⟩ = some (.int .i64 s.inn) := (cell_of_heap hr).trans rfl
    have sd1 : wE.cell? ⟨w.heap.size, 1, none⟩ = some (.slice wo wn wq) := (cell_of_heap hr).trans rfl
    have sd2 : wE.cell? ⟨w.heap.size, 2, none⟩ = some (.slice go gn gc) := (cell_of_heap hr).trans rfl
    have sd3 : wE.cell? ⟨w.heap.size, 3, none⟩ = some (.int .u8 s.sign) := (cell_of_heap hr).trans rfl
    clear hr
    go_wp2_with fail
    refine (refRest_any s.inn wo wn wq s.wait _ go gn gc s.sign wE rfl (HW.out.below HSE.out.bel) (by have := HW.out.size; omega)).mono ?_
    rintro e w1 ⟨V, rfl, hA, hB⟩
    have HS1 := Lib.hid (HSE.out.below hB)
    have HA1 := Lib.hid hA
    have hr := HS1.out.a0
    have td1 : w1.cell? ⟨w.heap.size, 1, none⟩ = some (.slice wo wn wq) := (cell_of_heap hr).trans rfl
    have te1 : w1.frozen? ⟨w.heap.size, 1, none⟩ = false := by simp [World.frozen?, hr]
    clear hr hA hB sd0 sd1 sd2 sd3
    obtain ⟨w2, hw2⟩ : ∃ w2, w2 = w1.setCell ⟨w.heap.size, 1, none⟩ (.slice none 0 0) := ⟨_, rfl⟩
    have HS2 : Hid (S2 w w2 #[.int .i64 s.inn, .slice none 0 0, .slice go gn gc, .int .u8 s.sign] #[.int .i64 0, .slice none 0 0, .slice none 0 0, .int .u8 0]) := Lib.hid (by rw [hw2]; exact HS1.out.setWait)
    have hk2 : Kept w1 w2 (· = w.heap.size) := by rw [hw2]; exact (Kept.refl w1 (· = w.heap.size)).setCell (p := ⟨w.heap.size, 1, none⟩) (fun _ => rfl) _
    have HA2 : Hid (ActsAt w2 wE.heap.size V (rf.rest s)) := Lib.hid (HA1.out.keptP hk2 (by have := HLT.out; omega))
    clear hk2
    go_upto_region 7 with fail
    rw [← hw2]
    clear hw2 td1 te1 HA1 HS1 HSE HAE
    have hq := HS2.out.a1
    have zd0 : w2.cell? ⟨w.heap.size + 1, 0, none⟩ = some (.int .i64 0) := (cell_of_heap hq).trans rfl
    have ze0 : w2.frozen? ⟨w.heap.size + 1, 0, none⟩ = false := by simp [World.frozen?, hq]
    have zd1 : w2.cell? ⟨w.heap.size + 1, 1, none⟩ = some (.slice none 0 0) := (cell_of_heap hq).trans rfl
    have ze1 : w2.frozen? ⟨w.heap.size + 1, 1, none⟩ = false := by simp [World.frozen?, hq]
    have zd2 : w2.cell? ⟨w.heap.size + 1, 2, none⟩ = some (.slice none 0 0) := (cell_of_heap hq).trans rfl
    have ze2 : w2.frozen? ⟨w.heap.size + 1, 2, none⟩ = false := by simp [World.frozen?, hq]
    have zd3 : w2.cell? ⟨w.heap.size + 1, 3, none⟩ = some (.int .u8 0) := (cell_of_heap hq).trans rfl
    have ze3 : w2.frozen? ⟨w.heap.size + 1, 3, none⟩ = false := by simp [World.frozen?, hq]
    obtain ⟨hg4, hk4⟩ := store4 hq (.int .i64 0) (.slice none 0 0) (.slice none 0 0) (.int .u8 0)
    have H4 := Lib.hid (And.intro hg4 (And.intro (HS2.out.bel.trans (hk4.below HS2.out.bel.size (fun k hk => by omega))) ((HA2.out.keptP hk4 HLT.out).base_le (by have := HLT.out; omega : w.heap.size ≤ wE.heap.size))))
    clear hg4 hk4 hq
    go_wp2_with fail
    refine bodyPost_ret (results_row_tmp rfl _ _ (w.heap.size + 1) 36 _ (0, 0) _ rfl H4.out.1 Tryd.underlying36 rfl (by kernel_rfl)) rfl ?_
    rw [HE.out]
    exact ⟨_, _, rfl, ⟨_, _, _, _, _, _, rfl, B8.nil _, B8.nil _⟩, H4.out.2.2, H4.out.2.1⟩
  · subst hc
    have HE : Hid (rf.byte0 s c = ({ inn := 1 }, rf.rest s)) := Lib.hid (by unfold rf.byte0; simp [HQ.out])
    go_upto_if 28 with fail
    have HLT : Hid (w.heap.size + 1 < wE.heap.size) := Lib.hid (by have := HLT0.out; omega)
    have hr := HSE.out.a0
    have sd0 : wE.cell? ⟨w.heap.size, 0, none⟩ = some (.int .i64 s.inn) := (cell_of_heap hr).trans rfl
    have sd1 : wE.cell? ⟨w.heap.size, 1, none⟩ = some (.slice wo wn wq) := (cell_of_heap hr).trans rfl
    have sd2 : wE.cell? ⟨w.heap.size, 2, none⟩ = some (.slice go gn gc) := (cell_of_heap hr).trans rfl
    have sd3 : wE.cell? ⟨w.heap.size, 3, none⟩ = some (.int .u8 s.sign) := (cell_of_heap hr).trans rfl
    clear hr
    go_wp2_with fail
    refine (refRest_any s.inn wo wn wq s.wait _ go gn gc s.sign wE rfl (HW.out.below HSE.out.bel) (by have := HW.out.size; omega)).mono ?_
    rintro e w1 ⟨V, rfl, hA, hB⟩
    have HS1 := Lib.hid (HSE.out.below hB)
    have HA1 := Lib.hid hA
    have hr := HS1.out.a0
    have td1 : w1.cell? ⟨w.heap.size, 1, none⟩ = some (.slice wo wn wq) := (cell_of_heap hr).trans rfl
    have te1 : w1.frozen? ⟨w.heap.size, 1, none⟩ = false := by simp [World.frozen?, hr]
    clear hr hA hB sd0 sd1 sd2 sd3
    obtain ⟨w2, hw2⟩ : ∃ w2, w2 = w1.setCell ⟨w.heap.size, 1, none⟩ (.slice none 0 0) := ⟨_, rfl⟩
    have HS2 : Hid (S2 w w2 #[.int .i64 s.inn, .slice none 0 0, .slice go gn gc, .int .u8 s.sign] #[.int .i64 0, .slice none 0 0, .slice none 0 0, .int .u8 0]) := Lib.hid (by rw [hw2]; exact HS1.out.setWait)
    have hk2 : Kept w1 w2 (· = w.heap.size) := by rw [hw2]; exact (Kept.refl w1 (· = w.heap.size)).setCell (p := ⟨w.heap.size, 1, none⟩) (fun _ => rfl) _
    have HA2 : Hid (ActsAt w2 wE.heap.size V (rf.rest s)) := Lib.hid (HA1.out.keptP hk2 (by have := HLT.out; omega))
    clear hk2
    go_upto_region 7 with fail
    rw [← hw2]
    clear hw2 td1 te1 HA1 HS1 HSE HAE
    have hq := HS2.out.a1
    have zd0 : w2.cell? ⟨w.heap.size + 1, 0, none⟩ = some (.int .i64 0) := (cell_of_heap hq).trans rfl
    have ze0 : w2.frozen? ⟨w.heap.size + 1, 0, none⟩ = false := by simp [World.frozen?, hq]
    have zd1 : w2.cell? ⟨w.heap.size + 1, 1, none⟩ = some (.slice none 0 0) := (cell_of_heap hq).trans rfl
    have ze1 : w2.frozen? ⟨w.heap.size + 1, 1, none⟩ = false := by simp [World.frozen?, hq]
    have zd2 : w2.cell? ⟨w.heap.size + 1, 2, none⟩ = some (.slice none 0 0) := (cell_of_heap hq).trans rfl
    have ze2 : w2.frozen? ⟨w.heap.size + 1, 2, none⟩ = false := by simp [World.frozen?, hq]
    have zd3 : w2.cell? ⟨w.heap.size + 1, 3, none⟩ = some (.int .u8 0) := (cell_of_heap hq).trans rfl
    have ze3 : w2.frozen? ⟨w.heap.size + 1, 3, none⟩ = false := by simp [World.frozen?, hq]
    obtain ⟨hg4, hk4⟩ := store4 hq (.int .i64 1) (.slice none 0 0) (.slice none 0 0) (.int .u8 0)
    have H4 := Lib.hid (And.intro hg4 (And.intro (HS2.out.bel.trans (hk4.below HS2.out.bel.size (fun k hk => by omega))) ((HA2.out.keptP hk4 HLT.out).base_le (by have := HLT.out; omega : w.heap.size ≤ wE.heap.size))))
    clear hg4 hk4 hq
    go_wp2_with fail
    refine bodyPost_ret (results_row_tmp rfl _ _ (w.heap.size + 1) 36 _ (0, 0) _ rfl H4.out.1 Tryd.underlying36 rfl (by kernel_rfl)) rfl ?_
    rw [HE.out]
    exact ⟨_, _, rfl, ⟨_, _, _, _, _, _, rfl, B8.nil _, B8.nil _⟩, H4.out.2.2, H4.out.2.1⟩
  · subst hc
    have HE : Hid (rf.byte0 s c = ({ s with wait := [] }, rf.rest s)) := Lib.hid (by unfold rf.byte0; simp [HQ.out])
    go_upto_if 28 with fail
    have HLT : Hid (w.heap.size + 1 < wE.heap.size) := Lib.hid (by have := HLT0.out; omega)
    have hr := HSE.out.a0
    have sd0 : wE.cell? ⟨w.heap.size, 0, none⟩ = some (.int .i64 s.inn) := (cell_of_heap hr).trans rfl
    have sd1 : wE.cell? ⟨w.heap.size, 1, none⟩ = some (.slice wo wn wq) := (cell_of_heap hr).trans rfl
    have sd2 : wE.cell? ⟨w.heap.size, 2, none⟩ = some (.slice go gn gc) := (cell_of_heap hr).trans rfl
    have sd3 : wE.cell? ⟨w.heap.size, 3, none⟩ = some (.int .u8 s.sign) := (cell_of_heap hr).trans rfl
    clear hr
    go_wp2_with fail
    refine (refRest_any s.inn wo wn wq s.wait _ go gn gc s.sign wE rfl (HW.out.below HSE.out.bel) (by have := HW.out.size; omega)).mono ?_
    rintro e w1 ⟨V, rfl, hA, hB⟩
    have HS1 := Lib.hid (HSE.out.below hB)
    have HA1 := Lib.hid hA
    have hr := HS1.out.a0
    have td1 : w1.cell? ⟨w.heap.size, 1, none⟩ = some (.slice wo wn wq) := (cell_of_heap hr).trans rfl
    have te1 : w1.frozen? ⟨w.heap.size, 1, none⟩ = false := by simp [World.frozen?, hr]
    clear hr hA hB sd0 sd1 sd2 sd3
    obtain ⟨w2, hw2⟩ : ∃ w2, w2 = w1.setCell ⟨w.heap.size, 1, none⟩ (.slice none 0 0) := ⟨_, rfl⟩
    have HS2 : Hid (S2 w w2 #[.int .i64 s.inn, .slice none 0 0, .slice go gn gc, .int .u8 s.sign] #[.int .i64 0, .slice none 0 0, .slice none 0 0, .int .u8 0]) := Lib.hid (by rw [hw2]; exact HS1.out.setWait)
    have hk2 : Kept w1 w2 (· = w.heap.size) := by rw [hw2]; exact (Kept.refl w1 (· = w.heap.size)).setCell (p := ⟨w.heap.size, 1, none⟩) (fun _ => rfl) _
    have HA2 : Hid (ActsAt w2 wE.heap.size V (rf.rest s)) := Lib.hid (HA1.out.keptP hk2 (by have := HLT.out; omega))
    clear hk2
    go_upto_region 7 with fail
    rw [← hw2]
    clear hw2 td1 te1 HA1 HS1 HSE HAE
    have hr := HS2.out.a0
    have sd0 : w2.cell? ⟨w.heap.size, 0, none⟩ = some (.int .i64 s.inn) := (cell_of_heap hr).trans rfl
    have sd1 : w2.cell? ⟨w.heap.size, 1, none⟩ = some (.slice none 0 0) := (cell_of_heap hr).trans rfl
    have sd2 : w2.cell? ⟨w.heap.size, 2, none⟩ = some (.slice go gn gc) := (cell_of_heap hr).trans rfl
    have sd3 : w2.cell? ⟨w.heap.size, 3, none⟩ = some (.int .u8 s.sign) := (cell_of_heap hr).trans rfl
    clear hr
    have hq := HS2.out.a1
    have zd0 : w2.cell? ⟨w.heap.size + 1, 0, none⟩ = some (.int .i64 0) := (cell_of_heap hq).trans rfl
    have ze0 : w2.frozen? ⟨w.heap.size + 1, 0, none⟩ = false := by simp [World.frozen?, hq]
    have zd1 : w2.cell? ⟨w.heap.size + 1, 1, none⟩ = some (.slice none 0 0) := (cell_of_heap hq).trans rfl
    have ze1 : w2.frozen? ⟨w.heap.size + 1, 1, none⟩ = false := by simp [World.frozen?, hq]
    have zd2 : w2.cell? ⟨w.heap.size + 1, 2, none⟩ = some (.slice none 0 0) := (cell_of_heap hq).trans rfl
    have ze2 : w2.frozen? ⟨w.heap.size + 1, 2, none⟩ = false := by simp [World.frozen?, hq]
    have zd3 : w2.cell? ⟨w.heap.size + 1, 3, none⟩ = some (.int .u8 0) := (cell_of_heap hq).trans rfl
    have ze3 : w2.frozen? ⟨w.heap.size + 1, 3, none⟩ = false := by simp [World.frozen?, hq]
    obtain ⟨hg4, hk4⟩ := store4 hq (.int .i64 s.inn) (.slice none 0 0) (.slice go gn gc) (.int .u8 s.sign)
    have H4 := Lib.hid (And.intro hg4 (And.intro (HS2.out.bel.trans (hk4.below HS2.out.bel.size (fun k hk => by omega))) ((HA2.out.keptP hk4 HLT.out).base_le (by have := HLT.out; omega : w.heap.size ≤ wE.heap.size))))
    clear hg4 hk4 hq
    go_wp2_with fail
    refine bodyPost_ret (results_row_tmp rfl _ _ (w.heap.size + 1) 36 _ (0, 0) _ rfl H4.out.1 Tryd.underlying36 rfl (by kernel_rfl)) rfl ?_
    rw [HE.out]
    exact ⟨_, _, rfl, ⟨_, _, _, _, _, _, rfl, B8.nil _, HG8.out.below H4.out.2.1⟩, H4.out.2.2, H4.out.2.1⟩
end Go.Proofs.YtgkodjkhhmcnnaaDoor
namespace Go.Proofs.YtgkodjkhhmcnnaaDoor
open Go.RowKit
set_option maxRecDepth 100000 in
set_option maxHeartbeats 1600000 in
theorem refByteBehind_any (v : Value) (s : rf.St) (c : UInt8) (w : World) (h : StW w v s) (hin : s.inn = 1) (hn : s.got.length ≤ 1099511627775) (hc : 32 ≤ c.toNat ∧ c.toNat ≠ 127) :
    Calls Tryd.prog 20 #[v, .int .u8 c.toNat] w (Said2 (rf.byte0 s c).1 (rf.byte0 s c).2 w) := by
  have hs : s.inn ≠ 3 ∧ s.inn ≠ 4 := by omega
  have HE : Hid (rf.byte0 s c = rf.behind s c) := Lib.hid (by unfold rf.byte0; rw [if_neg (show ¬ (c.toNat = 24 ∨ c.toNat = 26) by omega), if_neg (show ¬ c.toNat = 27 by omega), if_neg (show ¬ c.toNat < 32 by omega), if_neg hc.2, if_pos hin])
  have HIN := Lib.hid hin
  have HC := Lib.hid hc
  clear hin hc
  obtain ⟨wo, wn, wq, go, gn, gc, rfl, hw8, hg8⟩ := h
  have hw := hw8.b; have hg := hg8.b
  have HW8 := Lib.hid hw8; have HG8 := Lib.hid hg8
  clear hw8 hg8
  have hgl := hg.size
  have HW := Lib.hid hw; have HG := Lib.hid hg
  have HS := Lib.hid (S2.new w #[.int .i64 s.inn, .slice wo wn wq, .slice go gn gc, .int .u8 s.sign] #[.int .i64 0, .slice none 0 0, .slice none 0 0, .int .u8 0])
  clear hw hg
  have h3i : ((s.inn : Int) == 3) = false := by simp; omega
  have h4i : ((s.inn : Int) == 4) = false := by simp; omega
  go_enter Tryd.func20, Tryd.ntmps20
  go_upto_region 1 with fail
  generalize (w.alloc (.cells #[.int .i64 s.inn, .slice wo wn wq, .slice go gn gc, .int .u8 s.sign] 36)).alloc (.cells #[.int .i64 0, .slice none 0 0, .slice none 0 0, .int .u8 0] 36) = w0 at *
  have hr := HS.out.a0
  have sd0 : w0.cell? ⟨w.heap.size, 0, none⟩ = some (.int .i64 s.inn) := (cell_of_heap hr).trans rfl
  clear hr
  have HSE := Lib.hid (HS.out.below (below_one w0 (.cells #[] 45)))
  have HAE := Lib.hid (GA.start w0).acts
  have HLT0 := Lib.hid (And.intro HS.out.lt (show (w0.alloc (.cells #[] 45)).heap.size = w0.heap.size + 1 by simp))
  go_upto_region 4 with fail
  generalize w0.alloc (.cells #[] 45) = wE at *
  clear HS sd0
  have hc := HC.out
  have q32 : ¬ ((c.toNat : Nat) : Int) < 32 := by omega
  have q127 : (((c.toNat : Nat) : Int) == 127) = false := by simp; omega
  have q24 : (((c.toNat : Nat) : Int) == 24) = false := by simp; omega
  have q26 : (((c.toNat : Nat) : Int) == 26) = false := by simp; omega
  have q27 : (((c.toNat : Nat) : Int) == 27) = false := by simp; omega
  have i1 : ((s.inn : Int) == 1) = true := by have := HIN.out; simp; omega
  have HLT : Hid (w.heap.size + 1 < wE.heap.size) := Lib.hid (by have := HLT0.out; omega)
  clear hc hs
  have hr := HSE.out.a0
  have sd0 : wE.cell? ⟨w.heap.size, 0, none⟩ = some (.int .i64 s.inn) := (cell_of_heap hr).trans rfl
  have sd1 : wE.cell? ⟨w.heap.size, 1, none⟩ = some (.slice wo wn wq) := (cell_of_heap hr).trans rfl
  have sd2 : wE.cell? ⟨w.heap.size, 2, none⟩ = some (.slice go gn gc) := (cell_of_heap hr).trans rfl
  have sd3 : wE.cell? ⟨w.heap.size, 3, none⟩ = some (.int .u8 s.sign) := (cell_of_heap hr).trans rfl
  clear hr
  have HST : Hid (StW wE (.agg #[.int .i64 s.inn, .slice wo wn wq, .slice go gn gc, .int .u8 s.sign]) s) := Lib.hid ⟨wo, wn, wq, go, gn, gc, rfl, HW8.out.below HSE.out.bel, HG8.out.below HSE.out.bel⟩
  go_wp2_with fail
  refine (refBehind_any _ s c wE HST.out hn).mono ?_
  intro e w1 hsaid
  obtain ⟨v2, V, he, hst, hA, hB⟩ := hsaid
  subst he
  obtain ⟨R, hR⟩ : ∃ R, rf.behind s c = R := ⟨_, rfl⟩
  rw [hR] at HE hst hA
  clear hR
  obtain ⟨wo2, wn2, wq2, go2, gn2, gc2, rfl, hw2, hg2⟩ := hst
  have HS1 := Lib.hid (HSE.out.below hB)
  have HA1 := Lib.hid hA; have HW1 := Lib.hid hw2; have HG1 := Lib.hid hg2
  clear hA hw2 hg2 hB sd0 sd1 sd2 sd3 HSE HAE
  have hq := HS1.out.a1
  have zd0 : w1.cell? ⟨w.heap.size + 1, 0, none⟩ = some (.int .i64 0) := (cell_of_heap hq).trans rfl
  have ze0 : w1.frozen? ⟨w.heap.size + 1, 0, none⟩ = false := by simp [World.frozen?, hq]
  have zd1 : w1.cell? ⟨w.heap.size + 1, 1, none⟩ = some (.slice none 0 0) := (cell_of_heap hq).trans rfl
  have ze1 : w1.frozen? ⟨w.heap.size + 1, 1, none⟩ = false := by simp [World.frozen?, hq]
  have zd2 : w1.cell? ⟨w.heap.size + 1, 2, none⟩ = some (.slice none 0 0) := (cell_of_heap hq).trans rfl
  have ze2 : w1.frozen? ⟨w.heap.size + 1, 2, none⟩ = false := by simp [World.frozen?, hq]
  have zd3 : w1.cell? ⟨w.heap.size + 1, 3, none⟩ = some (.int .u8 0) := (cell_of_heap hq).trans rfl
  have ze3 : w1.frozen? ⟨w.heap.size + 1, 3, none⟩ = false := by simp [World.frozen?, hq]
  obtain ⟨hg4, hk4⟩ := store4 hq (.int .i64 R.1.inn) (.slice wo2 wn2 wq2) (.slice go2 gn2 gc2) (.int .u8 R.1.sign)
  have H4 := Lib.hid (And.intro hg4 (And.intro (HS1.out.bel.trans (hk4.below HS1.out.bel.size (fun k hk => by omega))) ((HA1.out.keptP hk4 HLT.out).base_le (by have := HLT.out; omega : w.heap.size ≤ wE.heap.size))))
  have HB4 := Lib.hid (And.intro (HW1.out.kept hk4 hq) (HG1.out.kept hk4 hq))
  clear hg4 hk4 hq
  go_wp2_with fail
  refine bodyPost_ret (results_row_tmp rfl _ _ (w.heap.size + 1) 36 _ (0, 0) _ rfl H4.out.1 Tryd.underlying36 rfl (by kernel_rfl)) rfl ?_
  rw [HE.out]
  exact ⟨_, _, rfl, ⟨_, _, _, _, _, _, rfl, HB4.out.1, HB4.out.2⟩, H4.out.2.2, H4.out.2.1⟩
set_option maxRecDepth 100000 in
set_option maxHeartbeats 1600000 in
theorem refByteSeq_any (v : Value) (s : rf.St) (c : UInt8) (w : World) (h : StW w v s) (hin : s.inn = 2) (hn : s.got.length ≤ 1099511627775) (hc : 32 ≤ c.toNat ∧ c.toNat ≠ 127) :
    Calls Tryd.prog 20 #[v, .int .u8 c.toNat] w (Said2 (rf.byte0 s c).1 (rf.byte0 s c).2 w) := by
  have hs : s.inn ≠ 3 ∧ s.inn ≠ 4 := by omega
  have HE : Hid (rf.byte0 s c = rf.sequence s c) := Lib.hid (by unfold rf.byte0; rw [if_neg (show ¬ (c.toNat = 24 ∨ c.toNat = 26) by omega), if_neg (show ¬ c.toNat = 27 by omega), if_neg (show ¬ c.toNat < 32 by omega), if_neg hc.2, if_neg (show ¬ s.inn = 1 by omega), if_pos hin])
  have HIN := Lib.hid hin
  have HC := Lib.hid hc
  clear hin hc
  obtain ⟨wo, wn, wq, go, gn, gc, rfl, hw8, hg8⟩ := h
  have hw := hw8.b; have hg := hg8.b
  have HW8 := Lib.hid hw8; have HG8 := Lib.hid hg8
  clear hw8 hg8
  have hgl := hg.size
  have HW := Lib.hid hw; have HG := Lib.hid hg
  have HS := Lib.hid (S2.new w #[.int .i64 s.inn, .slice wo wn wq, .slice go gn gc, .int .u8 s.sign] #[.int .i64 0, .slice none 0 0, .slice none 0 0, .int .u8 0])
  clear hw hg
  have h3i : ((s.inn : Int) == 3) = false := by simp; omega
  have h4i : ((s.inn : Int) == 4) = false := by simp; omega
  go_enter Tryd.func20, Tryd.ntmps20
  go_upto_region 1 with fail
  generalize (w.alloc (.cells #[.int .i64 s.inn, .slice wo wn wq, .slice go gn gc, .int .u8 s.sign] 36)).alloc (.cells #[.int .i64 0, .slice none 0 0, .slice none 0 0, .int .u8 0] 36) = w0 at *
  have hr := HS.out.a0
  have sd0 : w0.cell? ⟨w.heap.size, 0, none⟩ = some (.int .i64 s.inn) := (cell_of_heap hr).trans rfl
  clear hr
  have HSE := Lib.hid (HS.out.below (below_one w0 (.cells #[] 45)))
  have HAE := Lib.hid (GA.start w0).acts
  have HLT0 := Lib.hid (And.intro HS.out.lt (show (w0.alloc (.cells #[] 45)).heap.size = w0.heap.size + 1 by simp))
  go_upto_region 4 with fail
  generalize w0.alloc (.cells #[] 45) = wE at *
  clear HS sd0
  have hc := HC.out
  have q32 : ¬ ((c.toNat : Nat) : Int) < 32 := by omega
  have q127 : (((c.toNat : Nat) : Int) == 127) = false := by simp; omega
  have q24 : (((c.toNat : Nat) : Int) == 24) = false := by simp; omega
  have q26 : (((c.toNat : Nat) : Int) == 26) = false := by simp; omega
  have q27 : (((c.toNat : Nat) : Int) == 27) = false := by simp; omega
  have i1 : ((s.inn : Int) == 1) = false := by have := HIN.out; simp; omega
  have i2 : ((s.inn : Int) == 2) = true := by have := HIN.out; simp; omega
  have HLT : Hid (w.heap.size + 1 < wE.heap.size) := Lib.hid (by have := HLT0.out; omega)
  clear hc hs
  have hr := HSE.out.a0
  have sd0 : wE.cell? ⟨w.heap.size, 0, none⟩ = some (.int .i64 s.inn) := (cell_of_heap hr).trans rfl
  have sd1 : wE.cell? ⟨w.heap.size, 1, none⟩ = some (.slice wo wn wq) := (cell_of_heap hr).trans rfl
  have sd2 : wE.cell? ⟨w.heap.size, 2, none⟩ = some (.slice go gn gc) := (cell_of_heap hr).trans rfl
  have sd3 : wE.cell? ⟨w.heap.size, 3, none⟩ = some (.int .u8 s.sign) := (cell_of_heap hr).trans rfl
  clear hr
  have HST : Hid (StW wE (.agg #[.int .i64 s.inn, .slice wo wn wq, .slice go gn gc, .int .u8 s.sign]) s) := Lib.hid ⟨wo, wn, wq, go, gn, gc, rfl, HW8.out.below HSE.out.bel, HG8.out.below HSE.out.bel⟩
  go_wp2_with fail
  refine (refSequence_any _ s c wE HST.out hn).mono ?_
  intro e w1 hsaid
  obtain ⟨v2, V, he, hst, hA, hB⟩ := hsaid
  subst he
  obtain ⟨R, hR⟩ : ∃ R, rf.sequence s c = R := ⟨_, rfl⟩
  rw [hR] at HE hst hA
  clear hR
  obtain ⟨wo2, wn2, wq2, go2, gn2, gc2, rfl, hw2, hg2⟩ := hst
  have HS1 := Lib.hid (HSE.out.below hB)
  have HA1 := Lib.hid hA; have HW1 := Lib.hid hw2; have HG1 := Lib.hid hg2
  clear hA hw2 hg2 hB sd0 sd1 sd2 sd3 HSE HAE
  have hq := HS1.out.a1
  have zd0 : w1.cell? ⟨w.heap.size + 1, 0, none⟩ = some (.int .i64 0) := (cell_of_heap hq).trans rfl
  have ze0 : w1.frozen? ⟨w.heap.size + 1, 0, none⟩ = false := by simp [World.frozen?, hq]
  have zd1 : w1.cell? ⟨w.heap.size + 1, 1, none⟩ = some (.slice none 0 0) := (cell_of_heap hq).trans rfl
  have ze1 : w1.frozen? ⟨w.heap.size + 1, 1, none⟩ = false := by simp [World.frozen?, hq]
  have zd2 : w1.cell? ⟨w.heap.size + 1, 2, none⟩ = some (.slice none 0 0) := (cell_of_heap hq).trans rfl
  have ze2 : w1.frozen? ⟨w.heap.size + 1, 2, none⟩ = false := by simp [World.frozen?, hq]
  have zd3 : w1.cell? ⟨w.heap.size + 1, 3, none⟩ = some (.int .u8 0) := (cell_of_heap hq).trans rfl
  have ze3 : w1.frozen? ⟨w.heap.size + 1, 3, none⟩ = false := by simp [World.frozen?, hq]
  obtain ⟨hg4, hk4⟩ := store4 hq (.int .i64 R.1.inn) (.slice wo2 wn2 wq2) (.slice go2 gn2 gc2) (.int .u8 R.1.sign)
  have H4 := Lib.hid (And.intro hg4 (And.intro (HS1.out.bel.trans (hk4.below HS1.out.bel.size (fun k hk => by omega))) ((HA1.out.keptP hk4 HLT.out).base_le (by have := HLT.out; omega : w.heap.size ≤ wE.heap.size))))
  have HB4 := Lib.hid (And.intro (HW1.out.kept hk4 hq) (HG1.out.kept hk4 hq))
  clear hg4 hk4 hq
  go_wp2_with fail
  refine bodyPost_ret (results_row_tmp rfl _ _ (w.heap.size + 1) 36 _ (0, 0) _ rfl H4.out.1 Tryd.underlying36 rfl (by kernel_rfl)) rfl ?_
  rw [HE.out]
  exact ⟨_, _, rfl, ⟨_, _, _, _, _, _, rfl, HB4.out.1, HB4.out.2⟩, H4.out.2.2, H4.out.2.1⟩
end Go.Proofs.YtgkodjkhhmcnnaaDoor
namespace Go.Proofs.YtgkodjkhhmcnnaaDoor
open Go.RowKit
set_option maxRecDepth 100000 in
set_option maxHeartbeats 1600000 in
theorem refByteGround_any (v : Value) (s : rf.St) (c : UInt8) (w : World) (h : StW w v s) (hin : s.inn ≠ 1 ∧ s.inn ≠ 2 ∧ s.inn ≠ 3 ∧ s.inn ≠ 4) (hn2 : s.wait.length ≤ 1000) (hc : 32 ≤ c.toNat ∧ c.toNat ≠ 127) :
    Calls Tryd.prog 20 #[v, .int .u8 c.toNat] w (Said2 (rf.byte0 s c).1 (rf.byte0 s c).2 w) := by
  have hs : s.inn ≠ 3 ∧ s.inn ≠ 4 := by omega
  have HE : Hid (rf.byte0 s c = ({ wait := (gl.read (s.wait ++ [c])).2 }, (gl.read (s.wait ++ [c])).1.map es.print)) := Lib.hid (by unfold rf.byte0; rw [if_neg (show ¬ (c.toNat = 24 ∨ c.toNat = 26) by omega), if_neg (show ¬ c.toNat = 27 by omega), if_neg (show ¬ c.toNat < 32 by omega), if_neg hc.2, if_neg hin.1, if_neg hin.2.1])
  have HIN := Lib.hid hin
  have HC := Lib.hid hc
  clear hin hc
  obtain ⟨wo, wn, wq, go, gn, gc, rfl, hw8, hg8⟩ := h
  have hw := hw8.b; have hg := hg8.b
  have HW8 := Lib.hid hw8; have HG8 := Lib.hid hg8
  clear hw8 hg8
  have hgl := hg.size
  have HW := Lib.hid hw; have HG := Lib.hid hg
  have HS := Lib.hid (S2.new w #[.int .i64 s.inn, .slice wo wn wq, .slice go gn gc, .int .u8 s.sign] #[.int .i64 0, .slice none 0 0, .slice none 0 0, .int .u8 0])
  clear hw hg
  have h3i : ((s.inn : Int) == 3) = false := by simp; omega
  have h4i : ((s.inn : Int) == 4) = false := by simp; omega
  go_enter Tryd.func20, Tryd.ntmps20
  go_upto_region 1 with fail
  generalize (w.alloc (.cells #[.int .i64 s.inn, .slice wo wn wq, .slice go gn gc, .int .u8 s.sign] 36)).alloc (.cells #[.int .i64 0, .slice none 0 0, .slice none 0 0, .int .u8 0] 36) = w0 at *
  have hr := HS.out.a0
  have sd0 : w0.cell? ⟨w.heap.size, 0, none⟩ = some (.int .i64 s.inn) := (cell_of_heap hr).trans rfl
  clear hr
  have HSE := Lib.hid (HS.out.below (below_one w0 (.cells #[] 45)))
  have HAE := Lib.hid (GA.start w0).acts
  have HLT0 := Lib.hid (And.intro HS.out.lt (show (w0.alloc (.cells #[] 45)).heap.size = w0.heap.size + 1 by simp))
  go_upto_region 4 with fail
  generalize w0.alloc (.cells #[] 45) = wE at *
  clear HS sd0
  have hc := HC.out
  have q32 : ¬ ((c.toNat : Nat) : Int) < 32 := by omega
  have q127 : (((c.toNat : Nat) : Int) == 127) = false := by simp; omega
  have q24 : (((c.toNat : Nat) : Int) == 24) = false := by simp; omega
  have q26 : (((c.toNat : Nat) : Int) == 26) = false := by simp; omega
  have q27 : (((c.toNat : Nat) : Int) == 27) = false := by simp; omega
  have i1 : ((s.inn : Int) == 1) = false := by have := HIN.out; simp; omega
  have i2 : ((s.inn : Int) == 2) = false := by have := HIN.out; simp; omega
  have HLT : Hid (w.heap.size + 1 < wE.heap.size) := Lib.hid (by have := HLT0.out; omega)
  clear hc hs
  have hr := HSE.out.a0
  have sd0 : wE.cell? ⟨w.heap.size, 0, none⟩ = some (.int .i64 s.inn) := (cell_of_heap hr).trans rfl
  have sd1 : wE.cell? ⟨w.heap.size, 1, none⟩ = some (.slice wo wn wq) := (cell_of_heap hr).trans rfl
  have sd2 : wE.cell? ⟨w.heap.size, 2, none⟩ = some (.slice go gn gc) := (cell_of_heap hr).trans rfl
  have sd3 : wE.cell? ⟨w.heap.size, 3, none⟩ = some (.int .u8 s.sign) := (cell_of_heap hr).trans rfl
  clear hr
  go_wp2_with fail
  refine (refAdd_any wo wn wq s.wait c wE (HW.out.below HSE.out.bel) (by have := HW.out.size; omega)).mono ?_
  intro e w1 hsaid
  obtain ⟨ro, rc, he, hO, hB⟩ := hsaid
  subst he
  have HS1 := Lib.hid (HSE.out.below hB)
  have HO := Lib.hid hO
  have HSZ1 := Lib.hid hB.size
  have HB1 := Lib.hid (show Bts w1 ro (wn + 1) rc (s.wait ++ [c]) from hO.nums)
  have HL : Hid ((s.wait ++ [c]).length ≤ 1001) := Lib.hid (by simp; omega)
  generalize s.wait ++ [c] = L at *
  clear hO hB sd0 sd1 sd2 sd3 HSE HAE
  go_wp2_with fail
  refine (refFeed_any ro (wn + 1) rc L w1 HB1.out (by have := HW.out.size; omega)).mono ?_
  intro e w2 hsaid
  obtain ⟨uo, um, uc, xo, xn, xc, he, hR, hX, _, hB⟩ := hsaid
  subst he
  have HS2 := Lib.hid (HS1.out.below hB)
  have HR := Lib.hid hR; have HX := Lib.hid hX
  have HSZ2 := Lib.hid (And.intro HSZ1.out hB.size)
  clear hR hX hB HS1 HO HB1
  have HXD : Hid (Bts w2.drew xo xn xc (gl.read L).2) := Lib.hid (HX.out.below (Below.refl w2.heap.size w2).drew)
  have hxl := gl.rest_len L
  have hrl := gl.read_len L.length L (Nat.le_refl _)
  have HRL : Hid ((gl.read L).1.length ≤ 1001) := Lib.hid (by have := HL.out; have : (gl.read L).1.length + (gl.read L).2.length ≤ L.length := hrl; omega)
  have HUM : Hid (um = (gl.read L).1.length) := Lib.hid HR.out.len.symm
  have hxn : xn ≤ 3 := by have := HX.out.size; omega
  clear hxl hrl
  go_upto_region 20 with fail
  go_region_with (first
    | (go_at_call 40
       refine (refAdd_any xo xn xc (gl.read L).2 0 _ HXD.out (by omega)).mono ?_
       rintro e w3 ⟨yo, yc, rfl, hO, hB⟩
       have hcap : xn + 1 ≤ yc := hO.nums.le
       have hsl : (xn : Int) ≤ (yc : Int) := by omega
       have hB3 : Below w2.heap.size w2 w3 := ((Below.refl w2.heap.size w2).drew).trans hB
       have HB3 := Lib.hid hB3
       obtain ⟨g3, c3, e3, hg1, _, _, _⟩ := own_some hO.row (by omega)
       obtain ⟨e4, hcc⟩ := Value.slice.inj e3
       subst e4
       clear hcc
       have HO3 := Lib.hid hO
       clear e3 hg1 hO hB hB3)
    | (go_at_call 41
       refine (refRunesA_any uo um uc (gl.read L).1 _ (HR.out.nums.below HB3.out) (by have := HRL.out; have := HUM.out; omega)).mono ?_
       rintro e w4 ⟨V, rfl, hA, hB⟩
       have HS4 := Lib.hid ((HS2.out.below HB3.out).below hB)
       have HA4 := Lib.hid hA
       have HO4 := Lib.hid (HO3.out.below hB)
       have HSZ4 := Lib.hid (And.intro HB3.out.size hB.size)
       have hq := HS4.out.a1
       have zd0 : w4.cell? ⟨w.heap.size + 1, 0, none⟩ = some (.int .i64 0) := (cell_of_heap hq).trans rfl
       have ze0 : w4.frozen? ⟨w.heap.size + 1, 0, none⟩ = false := by simp [World.frozen?, hq]
       have zd1 : w4.cell? ⟨w.heap.size + 1, 1, none⟩ = some (.slice none 0 0) := (cell_of_heap hq).trans rfl
       have ze1 : w4.frozen? ⟨w.heap.size + 1, 1, none⟩ = false := by simp [World.frozen?, hq]
       have zd2 : w4.cell? ⟨w.heap.size + 1, 2, none⟩ = some (.slice none 0 0) := (cell_of_heap hq).trans rfl
       have ze2 : w4.frozen? ⟨w.heap.size + 1, 2, none⟩ = false := by simp [World.frozen?, hq]
       have zd3 : w4.cell? ⟨w.heap.size + 1, 3, none⟩ = some (.int .u8 0) := (cell_of_heap hq).trans rfl
       have ze3 : w4.frozen? ⟨w.heap.size + 1, 3, none⟩ = false := by simp [World.frozen?, hq]
       have hX4 : B8 w4 (some ⟨g3, 0, none⟩) xn yc (gl.read L).2 := by
         have h1 := row_take HO4.out.row xn (by omega)
         have h2 : (cs .u8 (u8s ((gl.read L).2 ++ [0]))).take xn = cs .u8 (u8s (gl.read L).2) := by
           have h3 := HX.out.size
           unfold cs u8s
           rw [← List.map_take, ← List.map_take, List.take_append_of_le_length (by omega), List.take_of_length_le (by omega)]
         rw [h2] at h1
         exact B8.own ⟨h1⟩
       obtain ⟨hg4, hk4⟩ := store4 hq (.int .i64 0) (.slice (some ⟨g3, 0, none⟩) xn yc) (.slice none 0 0) (.int .u8 0)
       have H4 := Lib.hid (And.intro hg4 (And.intro (HS4.out.bel.trans (hk4.below HS4.out.bel.size (fun k hk => by omega))) (And.intro ((HA4.out.keptP hk4 (by have := HLT.out; have := HSZ2.out; have := HSZ4.out; omega)).base_le (by have := HLT.out; have := HSZ2.out; have := HSZ4.out; omega : w.heap.size ≤ w3.heap.size)) (hX4.kept hk4 hq))))
       clear hg4 hk4 hX4
       clear hA hB hq))
  all_goals go_wp2_with fail
  all_goals refine bodyPost_ret (results_row_tmp rfl _ _ (w.heap.size + 1) 36 _ (0, 0) _ rfl H4.out.1 Tryd.underlying36 rfl (by kernel_rfl)) rfl ?_
  all_goals rw [HE.out]
  all_goals exact ⟨_, _, rfl, ⟨_, _, _, _, _, _, rfl, H4.out.2.2.2, B8.nil _⟩, H4.out.2.2.1, H4.out.2.1⟩
end Go.Proofs.YtgkodjkhhmcnnaaDoor
namespace Go.Proofs.YtgkodjkhhmcnnaaDoor
open Go.RowKit
theorem below_dN {B : Nat} {a w : World} (h : Below B a w) (n : Nat) : Below B a (w.drewN n) := ⟨h.os, h.tape, h.output, h.size, h.block⟩
/-- an act more, as one step of a region that draws -/
theorem step_append_act {w : World} {ops : Array Oper} {o : Oper} {a : Act} {K : Act → World → Prop} {Q : Exit → Act → World → Prop} {E : Prop} (hgd : o.guard = none) (s x : Operand)
    (ho : o.op = Op.call { callee := Callee.builtin Builtin.append, args := #[s, x], argTypes := #[37, 37] }) (B : Nat) (v : Value) (l : List es.Act) (hs : a.eval s = v) (hown : ActsAt w B v l)
    (g : Nat) (act : es.Act) (op : Option Addr) (cap : Nat) (hx : a.eval x = .slice (some ⟨g, 0, none⟩) 1 1) (hg : w.heap[g]? = some (.cells (actC act op cap).toArray 45 (0, 0))) (hp : Act1 w B act op cap)
    (hlen : l.length ≤ 1099511627776) (hbase : B ≤ w.heap.size)
    (hK : ∀ v' w', ActsAt w' B v' (l ++ [act]) → Below B w w' → (∀ (k : Nat) (ob : Obj), w.heap[k]? = some ob → (∀ c, ob ≠ Obj.cells c 45 (0, 0)) → w'.heap[k]? = some ob) → K (a.put o.dst v') w') :
    if Region.wanted o (yielded ops a.tmps) = true then Oper.wp Tryd.prog o a w K Q else E := by
  have hw : Region.wanted o (yielded ops a.tmps) = true := by simp [Region.wanted, hgd]
  rw [if_pos hw]
  obtain ⟨i0, hi, hz0, hz1, hz2⟩ := info_parts infoAct
  obtain ⟨L, h1, h2, h3⟩ := hown
  have hL : L.length = l.length := by rw [← h1, List.length_map]
  obtain ⟨v', w', hrun, r1, r2, _⟩ := run_append_own (P := Tryd.prog) w B 37 o.type 45 i0 _ 7 72 Tryd.underlying37 hi hz0 hz1 hz2 rfl (by omega) v L.length (rowC L) h2
    ⟨g, 0, none⟩ 1 1 (actC act op cap) (by simp [actC]) (fun j u hu => by rw [addr_b0, cell_of_heap hg]; simpa using hu) (fun u hu => by
      simp [actC] at hu
      rcases hu with rfl | rfl | rfl | rfl | rfl | rfl | rfl <;> rfl) (by unfold maxLen; omega) (by omega) hbase
  have hq := hK v' w' ?_ ?_ ?_
  · unfold Oper.wp
    simp [execOp, ho, resolve, invoke, builtin, hs, hx, hrun, Result.andThen]
    exact hq
  · refine ⟨L ++ [(act, op, cap)], by simp [h1], by rw [rowC_append, List.length_append]; exact r1, fun q hq => ?_⟩
    have hk := (Kept.refl w (fun k => v.ownBlock = some k)).grown r2 (fun k hk _ => hk)
    have hne : ∀ k c, B ≤ k → w.heap[k]? = some (.cells c 3 (0, 0)) → ¬ v.ownBlock = some k := by
      intro k c _ hkc hv
      rcases h2.2 with ⟨rfl, _⟩ | ⟨g', cap', cur', rfl, _, hg', _⟩
      · cases hv
      · obtain rfl : g' = k := by simpa [Value.ownBlock] using hv
        rw [hg'] at hkc
        simp at hkc
    rcases List.mem_append.1 hq with hq | hq
    · exact (h3 q hq).kept hk hne
    · obtain rfl : q = (act, op, cap) := by simpa using hq
      exact hp.kept hk hne
  · exact (Below.refl B w).grown r2 hbase (fun k hk => (h2.lt k hk).1)
  · intro k ob hk hne
    refine (r2.block k (Array.getElem?_eq_some_iff.1 hk).1 (fun e' => ?_)).trans hk
    rcases h2.2 with ⟨rfl, _⟩ | ⟨g', cap', cur', rfl, _, hg', _⟩
    · cases e'
    · obtain rfl : k = g' := by simpa [Value.ownBlock] using e'
      rw [hg'] at hk
      exact hne _ (Option.some.inj hk).symm
set_option maxRecDepth 100000 in
set_option maxHeartbeats 1600000 in
theorem refByteExec_any (v : Value) (s : rf.St) (c : UInt8) (w : World) (h : StW w v s) (hs : s.inn ≠ 3 ∧ s.inn ≠ 4) (hn2 : s.wait.length ≤ 1000) (hc : c.toNat < 32 ∧ c.toNat ≠ 24 ∧ c.toNat ≠ 26 ∧ c.toNat ≠ 27) :
    Calls Tryd.prog 20 #[v, .int .u8 c.toNat] w (Said2 (rf.byte0 s c).1 (rf.byte0 s c).2 w) := by
  have HE : Hid (rf.byte0 s c = ({ s with wait := [] }, rf.rest s ++ [{ kind := 2, final := c.toNat }])) := Lib.hid (by unfold rf.byte0; rw [if_neg (show ¬ (c.toNat = 24 ∨ c.toNat = 26) by omega), if_neg hc.2.2.2, if_pos hc.1]; rfl)
  have hrl : (rf.rest s).length ≤ 1000 := by unfold rf.rest; simpa using hn2
  obtain ⟨wo, wn, wq, go, gn, gc, rfl, hw8, hg8⟩ := h
  have hw := hw8.b; have hg := hg8.b
  have HW8 := Lib.hid hw8; have HG8 := Lib.hid hg8
  clear hw8 hg8
  have hgl := hg.size
  have HW := Lib.hid hw; have HG := Lib.hid hg
  have HS := Lib.hid (S2.new w #[.int .i64 s.inn, .slice wo wn wq, .slice go gn gc, .int .u8 s.sign] #[.int .i64 0, .slice none 0 0, .slice none 0 0, .int .u8 0])
  clear hw hg
  have h3i : ((s.inn : Int) == 3) = false := by simp; omega
  have h4i : ((s.inn : Int) == 4) = false := by simp; omega
  generalize hcq : c.toNat = q at *
  have HQ := Lib.hid hcq
  clear hcq
  go_enter Tryd.func20, Tryd.ntmps20
  go_upto_region 1 with fail
  generalize (w.alloc (.cells #[.int .i64 s.inn, .slice wo wn wq, .slice go gn gc, .int .u8 s.sign] 36)).alloc (.cells #[.int .i64 0, .slice none 0 0, .slice none 0 0, .int .u8 0] 36) = w0 at *
  have hr := HS.out.a0
  have sd0 : w0.cell? ⟨w.heap.size, 0, none⟩ = some (.int .i64 s.inn) := (cell_of_heap hr).trans rfl
  clear hr
  have HSE := Lib.hid (HS.out.below (below_one w0 (.cells #[] 45)))
  have HAE := Lib.hid (GA.start w0).acts
  have HLT0 := Lib.hid (And.intro HS.out.lt (show (w0.alloc (.cells #[] 45)).heap.size = w0.heap.size + 1 by simp))
  go_upto_region 4 with fail
  generalize w0.alloc (.cells #[] 45) = wE at *
  clear HS sd0
  have q32 : (q : Int) < 32 := by omega
  have q24 : ((q : Int) == 24) = false := by simp; omega
  have q26 : ((q : Int) == 26) = false := by simp; omega
  have q27 : ((q : Int) == 27) = false := by simp; omega
  clear hc
  go_upto_if 28 with fail
  have HLT : Hid (w.heap.size + 1 < wE.heap.size) := Lib.hid (by have := HLT0.out; omega)
  have hr := HSE.out.a0
  have sd0 : wE.cell? ⟨w.heap.size, 0, none⟩ = some (.int .i64 s.inn) := (cell_of_heap hr).trans rfl
  have sd1 : wE.cell? ⟨w.heap.size, 1, none⟩ = some (.slice wo wn wq) := (cell_of_heap hr).trans rfl
  have sd2 : wE.cell? ⟨w.heap.size, 2, none⟩ = some (.slice go gn gc) := (cell_of_heap hr).trans rfl
  have sd3 : wE.cell? ⟨w.heap.size, 3, none⟩ = some (.int .u8 s.sign) := (cell_of_heap hr).trans rfl
  clear hr
  go_wp2_with fail
  refine (refRest_any s.inn wo wn wq s.wait _ go gn gc s.sign wE rfl (HW.out.below HSE.out.bel) (by have := HW.out.size; omega)).mono ?_
  rintro e w1 ⟨V, rfl, hA, hB⟩
  have HSZ2 : Hid (wE.heap.size ≤ w1.heap.size) := Lib.hid hB.size
  have HS1 := Lib.hid (HSE.out.below hB)
  have HA1 := Lib.hid hA
  have hr := HS1.out.a0
  have td1 : w1.cell? ⟨w.heap.size, 1, none⟩ = some (.slice wo wn wq) := (cell_of_heap hr).trans rfl
  have te1 : w1.frozen? ⟨w.heap.size, 1, none⟩ = false := by simp [World.frozen?, hr]
  clear hr hA hB sd0 sd1 sd2 sd3
  obtain ⟨w2, hw2⟩ : ∃ w2, w2 = w1.setCell ⟨w.heap.size, 1, none⟩ (.slice none 0 0) := ⟨_, rfl⟩
  have HS2 : Hid (S2 w w2 #[.int .i64 s.inn, .slice none 0 0, .slice go gn gc, .int .u8 s.sign] #[.int .i64 0, .slice none 0 0, .slice none 0 0, .int .u8 0]) := Lib.hid (by rw [hw2]; exact HS1.out.setWait)
  have hk2 : Kept w1 w2 (· = w.heap.size) := by rw [hw2]; exact (Kept.refl w1 (· = w.heap.size)).setCell (p := ⟨w.heap.size, 1, none⟩) (fun _ => rfl) _
  have HA2 : Hid (ActsAt w2 wE.heap.size V (rf.rest s)) := Lib.hid (HA1.out.keptP hk2 (by have := HLT.out; omega))
  replace HSZ2 : Hid (wE.heap.size ≤ w2.heap.size) := Lib.hid (Nat.le_trans HSZ2.out hk2.size)
  clear hk2
  go_upto_region 7 with fail
  rw [← hw2]
  clear hw2 td1 te1 HA1 HS1 HSE HAE
  have hr := HS2.out.a0
  have sd0 : w2.cell? ⟨w.heap.size, 0, none⟩ = some (.int .i64 s.inn) := (cell_of_heap hr).trans rfl
  have sd1 : w2.cell? ⟨w.heap.size, 1, none⟩ = some (.slice none 0 0) := (cell_of_heap hr).trans rfl
  have sd2 : w2.cell? ⟨w.heap.size, 2, none⟩ = some (.slice go gn gc) := (cell_of_heap hr).trans rfl
  have sd3 : w2.cell? ⟨w.heap.size, 3, none⟩ = some (.int .u8 s.sign) := (cell_of_heap hr).trans rfl
  have hlt := HS2.out.lt
  have hlt0 : w.heap.size < w2.heap.size := by omega
  have HP : Hid (∀ k : Nat, ActsAt ((w2.drewN k).alloc (.cells #[.int .i64 2, .int .i32 0, .int .u8 q, .int .u8 0, .string ⟨#[]⟩, .slice none 0 0, .string ⟨#[]⟩] 45)) wE.heap.size V (rf.rest s) ∧ ((w2.drewN k).alloc (.cells #[.int .i64 2, .int .i32 0, .int .u8 q, .int .u8 0, .string ⟨#[]⟩, .slice none 0 0, .string ⟨#[]⟩] 45)).heap[w2.heap.size]? = some (.cells #[.int .i64 2, .int .i32 0, .int .u8 q, .int .u8 0, .string ⟨#[]⟩, .slice none 0 0, .string ⟨#[]⟩] 45 (0, 0)) ∧ ((w2.drewN k).alloc (.cells #[.int .i64 2, .int .i32 0, .int .u8 q, .int .u8 0, .string ⟨#[]⟩, .slice none 0 0, .string ⟨#[]⟩] 45)).heap[w.heap.size]? = w2.heap[w.heap.size]? ∧ ((w2.drewN k).alloc (.cells #[.int .i64 2, .int .i32 0, .int .u8 q, .int .u8 0, .string ⟨#[]⟩, .slice none 0 0, .string ⟨#[]⟩] 45)).heap[w.heap.size + 1]? = w2.heap[w.heap.size + 1]? ∧ Below w2.heap.size w2 ((w2.drewN k).alloc (.cells #[.int .i64 2, .int .i32 0, .int .u8 q, .int .u8 0, .string ⟨#[]⟩, .slice none 0 0, .string ⟨#[]⟩] 45)) ∧ wE.heap.size ≤ ((w2.drewN k).alloc (.cells #[.int .i64 2, .int .i32 0, .int .u8 q, .int .u8 0, .string ⟨#[]⟩, .slice none 0 0, .string ⟨#[]⟩] 45)).heap.size) := Lib.hid (fun k => by
    have hb : Below w2.heap.size w2 ((w2.drewN k).alloc (.cells #[.int .i64 2, .int .i32 0, .int .u8 q, .int .u8 0, .string ⟨#[]⟩, .slice none 0 0, .string ⟨#[]⟩] 45)) := (below_dN (Below.refl w2.heap.size w2) k).alloc (Nat.le_refl _) _
    refine ⟨HA2.out.below hb, heap_alloc_new (w2.drewN k) _, hb.block _ (by omega), hb.block _ (by omega), hb, ?_⟩
    have := HSZ2.out
    simp
    omega)
  clear hr
  go_upto_region 12 with fail
  go_region_law (refine step_append_act rfl (.tmp 50) (.tmp 53) rfl wE.heap.size V (rf.rest s) rfl (HP.out _).1 w2.heap.size { kind := 2, final := q } none 0 rfl (HP.out _).2.1 (act1_none _ _ _ rfl) (by omega) (HP.out _).2.2.2.2.2 ?_; intro v' w3 r1 r2 r3; have hr := r3 _ _ ((HP.out _).2.2.1.trans HS2.out.a0) (fun c e => absurd (Obj.cells.inj e).2.1 (by decide)); have hq := r3 _ _ ((HP.out _).2.2.2.1.trans HS2.out.a1) (fun c e => absurd (Obj.cells.inj e).2.1 (by decide)); have hb3 := HS2.out.bel.trans (((HP.out _).2.2.2.2.1.mono HS2.out.bel.size).trans (r2.mono (by have := HLT.out; omega))); have td0 : w3.cell? ⟨w.heap.size, 0, none⟩ = some (.int .i64 s.inn) := (cell_of_heap hr).trans rfl; have td1 : w3.cell? ⟨w.heap.size, 1, none⟩ = some (.slice none 0 0) := (cell_of_heap hr).trans rfl; have td2 : w3.cell? ⟨w.heap.size, 2, none⟩ = some (.slice go gn gc) := (cell_of_heap hr).trans rfl; have td3 : w3.cell? ⟨w.heap.size, 3, none⟩ = some (.int .u8 s.sign) := (cell_of_heap hr).trans rfl; have zd0 : w3.cell? ⟨w.heap.size + 1, 0, none⟩ = some (.int .i64 0) := (cell_of_heap hq).trans rfl; have ze0 : w3.frozen? ⟨w.heap.size + 1, 0, none⟩ = false := (by simp [World.frozen?, hq]); have zd1 : w3.cell? ⟨w.heap.size + 1, 1, none⟩ = some (.slice none 0 0) := (cell_of_heap hq).trans rfl; have ze1 : w3.frozen? ⟨w.heap.size + 1, 1, none⟩ = false := (by simp [World.frozen?, hq]); have zd2 : w3.cell? ⟨w.heap.size + 1, 2, none⟩ = some (.slice none 0 0) := (cell_of_heap hq).trans rfl; have ze2 : w3.frozen? ⟨w.heap.size + 1, 2, none⟩ = false := (by simp [World.frozen?, hq]); have zd3 : w3.cell? ⟨w.heap.size + 1, 3, none⟩ = some (.int .u8 0) := (cell_of_heap hq).trans rfl; have ze3 : w3.frozen? ⟨w.heap.size + 1, 3, none⟩ = false := (by simp [World.frozen?, hq]); obtain ⟨hg4, hk4⟩ := store4 hq (.int .i64 s.inn) (.slice none 0 0) (.slice go gn gc) (.int .u8 s.sign); have H4 := Lib.hid (And.intro hg4 (And.intro (hb3.trans (hk4.below hb3.size (fun k hk => by omega))) ((r1.keptP hk4 HLT.out).base_le (by have := HLT.out; omega : w.heap.size ≤ wE.heap.size)))); clear hg4 hk4 hb3 hr hq r1 r2 r3)
  all_goals go_wp2_with fail
  all_goals refine bodyPost_ret (results_row_tmp rfl _ _ (w.heap.size + 1) 36 _ (0, 0) _ rfl H4.out.1 Tryd.underlying36 rfl (by kernel_rfl)) rfl ?_
  all_goals rw [HE.out]
  all_goals exact ⟨_, _, rfl, ⟨_, _, _, _, _, _, rfl, B8.nil _, HG8.out.below H4.out.2.1⟩, H4.out.2.2, H4.out.2.1⟩
end Go.Proofs.YtgkodjkhhmcnnaaDoor
namespace Go.Proofs.YtgkodjkhhmcnnaaDoor
open Go.RowKit
/-- a byte outside of strings -/
theorem refByte0_any (v : Value) (s : rf.St) (c : UInt8) (w : World) (h : StW w v s) (hs : s.inn ≠ 3 ∧ s.inn ≠ 4) (hn : s.got.length ≤ 1099511627775) (hn2 : s.wait.length ≤ 1000) :
    Calls Tryd.prog 20 #[v, .int .u8 c.toNat] w (Said2 (rf.byte0 s c).1 (rf.byte0 s c).2 w) := by
  by_cases hb : rf.breaks c
  · exact refByteBreak_any v s c w h hs hn2 hb
  unfold rf.breaks at hb
  by_cases h32 : c.toNat < 32
  · exact refByteExec_any v s c w h hs hn2 (by omega)
  by_cases h1 : s.inn = 1
  · exact refByteBehind_any v s c w h h1 hn (by omega)
  by_cases h2 : s.inn = 2
  · exact refByteSeq_any v s c w h h2 hn (by omega)
  · exact refByteGround_any v s c w h (by omega) hn2 (by omega)
set_option maxRecDepth 100000 in
set_option maxHeartbeats 1600000 in
theorem refText_any (v : Value) (s : rf.St) (c : UInt8) (w : World) (h : StW w v s) (hn : s.got.length ≤ 1099511627775) :
    Calls Tryd.prog 35 #[v, .int .u8 c.toNat] w (Said2 (rf.text s c).1 (rf.text s c).2 w) := by
  obtain ⟨wo, wn, wq, go, gn, gc, rfl, hw8, hg8⟩ := h
  have hw := hw8.b; have hg := hg8.b
  have HW8 := Lib.hid hw8; have HG8 := Lib.hid hg8
  clear hw8 hg8
  have hgl := hg.size
  have HW := Lib.hid hw; have HG := Lib.hid hg
  have HS := Lib.hid (S2.new w #[.int .i64 s.inn, .slice wo wn wq, .slice go gn gc, .int .u8 s.sign] #[.int .i64 0, .slice none 0 0, .slice none 0 0, .int .u8 0])
  clear hw hg
  go_enter Tryd.func35, Tryd.ntmps35
  go_upto_region 1 with fail
  generalize (w.alloc (.cells #[.int .i64 s.inn, .slice wo wn wq, .slice go gn gc, .int .u8 s.sign] 36)).alloc (.cells #[.int .i64 0, .slice none 0 0, .slice none 0 0, .int .u8 0] 36) = wE at *
  have hr := HS.out.a0
  have sd2 : wE.cell? ⟨w.heap.size, 2, none⟩ = some (.slice go gn gc) := (cell_of_heap hr).trans rfl
  have sd3 : wE.cell? ⟨w.heap.size, 3, none⟩ = some (.int .u8 s.sign) := (cell_of_heap hr).trans rfl
  clear hr
  have hin := conv_row (HG.out.below HS.out.bel) gn (Nat.le_refl _)
  rw [show s.got.take gn = s.got by rw [← hgl, List.take_length]] at hin
  go_upto_region 2 with fail
  have HS2 := Lib.hid (HS.out.below (below_one wE (.cells #[.int .i64 5, .int .i32 0, .int .u8 s.sign, .int .u8 0, .string ⟨#[]⟩, .slice none 0 0, .string ⟨s.got.toArray⟩] 45)))
  have HLT : Hid (w.heap.size + 1 < wE.heap.size) := Lib.hid HS.out.lt
  have HA2 : Hid (ActsAt (wE.alloc (.cells #[.int .i64 5, .int .i32 0, .int .u8 s.sign, .int .u8 0, .string ⟨#[]⟩, .slice none 0 0, .string ⟨s.got.toArray⟩] 45)) wE.heap.size (.slice (some ⟨wE.heap.size, 0, none⟩) 1 1) [rf.said s]) := Lib.hid (acts_lit (rf.said s) none 0 (heap_alloc_new _ _) (Nat.le_refl _) (act1_none _ _ _ rfl))
  have HSZ2 : Hid (wE.heap.size ≤ (wE.alloc (.cells #[.int .i64 5, .int .i32 0, .int .u8 s.sign, .int .u8 0, .string ⟨#[]⟩, .slice none 0 0, .string ⟨s.got.toArray⟩] 45)).heap.size) := Lib.hid (by simp)
  generalize wE.alloc (.cells #[.int .i64 5, .int .i32 0, .int .u8 s.sign, .int .u8 0, .string ⟨#[]⟩, .slice none 0 0, .string ⟨s.got.toArray⟩] 45) = w2 at *
  clear sd2 sd3 hin HS
  have hr := HS2.out.a0
  have sd0 : w2.cell? ⟨w.heap.size, 0, none⟩ = some (.int .i64 s.inn) := (cell_of_heap hr).trans rfl
  clear hr
  by_cases hin4 : s.inn = 4
  · have i4 : ((s.inn : Int) == 4) = true := by simp; omega
    by_cases h92 : c.toNat = 92
    · have HE : Hid (rf.text s c = ({}, [rf.said s])) := Lib.hid (by unfold rf.text; rw [if_pos hin4, if_pos h92])
      generalize c.toNat = q at *
      subst h92
      clear hin4
      have hq := HS2.out.a1
      have zd0 : w2.cell? ⟨w.heap.size + 1, 0, none⟩ = some (.int .i64 0) := (cell_of_heap hq).trans rfl
      have ze0 : w2.frozen? ⟨w.heap.size + 1, 0, none⟩ = false := by simp [World.frozen?, hq]
      have zd1 : w2.cell? ⟨w.heap.size + 1, 1, none⟩ = some (.slice none 0 0) := (cell_of_heap hq).trans rfl
      have ze1 : w2.frozen? ⟨w.heap.size + 1, 1, none⟩ = false := by simp [World.frozen?, hq]
      have zd2 : w2.cell? ⟨w.heap.size + 1, 2, none⟩ = some (.slice none 0 0) := (cell_of_heap hq).trans rfl
      have ze2 : w2.frozen? ⟨w.heap.size + 1, 2, none⟩ = false := by simp [World.frozen?, hq]
      have zd3 : w2.cell? ⟨w.heap.size + 1, 3, none⟩ = some (.int .u8 0) := (cell_of_heap hq).trans rfl
      have ze3 : w2.frozen? ⟨w.heap.size + 1, 3, none⟩ = false := by simp [World.frozen?, hq]
      obtain ⟨hg4, hk4⟩ := store4 hq (.int .i64 0) (.slice none 0 0) (.slice none 0 0) (.int .u8 0)
      have H4 := Lib.hid (And.intro hg4 (And.intro (HS2.out.bel.trans (hk4.below HS2.out.bel.size (fun k hk => by omega))) ((HA2.out.keptP hk4 HLT.out).base_le (by have := HLT.out; omega : w.heap.size ≤ wE.heap.size))))
      clear hg4 hk4 hq
      go_wp2_with fail
      refine bodyPost_ret (results_row_tmp rfl _ _ (w.heap.size + 1) 36 _ (0, 0) _ rfl H4.out.1 Tryd.underlying36 rfl (by kernel_rfl)) rfl ?_
      rw [HE.out]
      exact ⟨_, _, rfl, StW.zero _, H4.out.2.2, H4.out.2.1⟩
    · have c92 : (((c.toNat : Nat) : Int) == 92) = false := by simp; omega
      have HE : Hid (rf.text s c = rf.byte0 { inn := 1 } c) := Lib.hid (by unfold rf.text; rw [if_pos hin4, if_neg h92])
      have HST : Hid (StW w2 (.agg #[.int .i64 1, .slice none 0 0, .slice none 0 0, .int .u8 0]) { inn := 1 }) := Lib.hid ⟨_, _, _, _, _, _, rfl, B8.nil _, B8.nil _⟩
      clear hin4 h92 HA2
      go_wp2_with fail
      refine (refByte0_any _ { inn := 1 } c w2 HST.out (by decide) (by decide) (by decide)).mono ?_
      intro e w1 hsaid
      obtain ⟨v2, V, he, hst, hA, hB⟩ := hsaid
      subst he
      obtain ⟨R, hR⟩ : ∃ R, rf.byte0 { inn := 1 } c = R := ⟨_, rfl⟩
      rw [hR] at HE hst hA
      clear hR
      obtain ⟨wo2, wn2, wq2, go2, gn2, gc2, rfl, hw2, hg2⟩ := hst
      have HS1 := Lib.hid (HS2.out.below hB)
      have HA1 := Lib.hid (hA.base_le HSZ2.out)
      have HW1 := Lib.hid hw2; have HG1 := Lib.hid hg2
      clear hA hw2 hg2 hB sd0 HS2
      have hq := HS1.out.a1
      have zd0 : w1.cell? ⟨w.heap.size + 1, 0, none⟩ = some (.int .i64 0) := (cell_of_heap hq).trans rfl
      have ze0 : w1.frozen? ⟨w.heap.size + 1, 0, none⟩ = false := by simp [World.frozen?, hq]
      have zd1 : w1.cell? ⟨w.heap.size + 1, 1, none⟩ = some (.slice none 0 0) := (cell_of_heap hq).trans rfl
      have ze1 : w1.frozen? ⟨w.heap.size + 1, 1, none⟩ = false := by simp [World.frozen?, hq]
      have zd2 : w1.cell? ⟨w.heap.size + 1, 2, none⟩ = some (.slice none 0 0) := (cell_of_heap hq).trans rfl
      have ze2 : w1.frozen? ⟨w.heap.size + 1, 2, none⟩ = false := by simp [World.frozen?, hq]
      have zd3 : w1.cell? ⟨w.heap.size + 1, 3, none⟩ = some (.int .u8 0) := (cell_of_heap hq).trans rfl
      have ze3 : w1.frozen? ⟨w.heap.size + 1, 3, none⟩ = false := by simp [World.frozen?, hq]
      obtain ⟨hg4, hk4⟩ := store4 hq (.int .i64 R.1.inn) (.slice wo2 wn2 wq2) (.slice go2 gn2 gc2) (.int .u8 R.1.sign)
      have H4 := Lib.hid (And.intro hg4 (And.intro (HS1.out.bel.trans (hk4.below HS1.out.bel.size (fun k hk => by omega))) ((HA1.out.keptP hk4 HLT.out).base_le (by have := HLT.out; omega : w.heap.size ≤ wE.heap.size))))
      have HB4 := Lib.hid (And.intro (HW1.out.kept hk4 hq) (HG1.out.kept hk4 hq))
      clear hg4 hk4 hq
      go_wp2_with fail
      refine bodyPost_ret (results_row_tmp rfl _ _ (w.heap.size + 1) 36 _ (0, 0) _ rfl H4.out.1 Tryd.underlying36 rfl (by kernel_rfl)) rfl ?_
      rw [HE.out]
      exact ⟨_, _, rfl, ⟨_, _, _, _, _, _, rfl, HB4.out.1, HB4.out.2⟩, H4.out.2.2, H4.out.2.1⟩
  have i4 : ((s.inn : Int) == 4) = false := by simp; omega
  by_cases h7 : c.toNat = 7
  · have HE : Hid (rf.text s c = ({}, [rf.said s])) := Lib.hid (by unfold rf.text; rw [if_neg hin4, if_pos h7])
    generalize c.toNat = q at *
    subst h7
    clear hin4
    have hq := HS2.out.a1
    have zd0 : w2.cell? ⟨w.heap.size + 1, 0, none⟩ = some (.int .i64 0) := (cell_of_heap hq).trans rfl
    have ze0 : w2.frozen? ⟨w.heap.size + 1, 0, none⟩ = false := by simp [World.frozen?, hq]
    have zd1 : w2.cell? ⟨w.heap.size + 1, 1, none⟩ = some (.slice none 0 0) := (cell_of_heap hq).trans rfl
    have ze1 : w2.frozen? ⟨w.heap.size + 1, 1, none⟩ = false := by simp [World.frozen?, hq]
    have zd2 : w2.cell? ⟨w.heap.size + 1, 2, none⟩ = some (.slice none 0 0) := (cell_of_heap hq).trans rfl
    have ze2 : w2.frozen? ⟨w.heap.size + 1, 2, none⟩ = false := by simp [World.frozen?, hq]
    have zd3 : w2.cell? ⟨w.heap.size + 1, 3, none⟩ = some (.int .u8 0) := (cell_of_heap hq).trans rfl
    have ze3 : w2.frozen? ⟨w.heap.size + 1, 3, none⟩ = false := by simp [World.frozen?, hq]
    obtain ⟨hg4, hk4⟩ := store4 hq (.int .i64 0) (.slice none 0 0) (.slice none 0 0) (.int .u8 0)
    have H4 := Lib.hid (And.intro hg4 (And.intro (HS2.out.bel.trans (hk4.below HS2.out.bel.size (fun k hk => by omega))) ((HA2.out.keptP hk4 HLT.out).base_le (by have := HLT.out; omega : w.heap.size ≤ wE.heap.size))))
    clear hg4 hk4 hq
    go_wp2_with fail
    refine bodyPost_ret (results_row_tmp rfl _ _ (w.heap.size + 1) 36 _ (0, 0) _ rfl H4.out.1 Tryd.underlying36 rfl (by kernel_rfl)) rfl ?_
    rw [HE.out]
    exact ⟨_, _, rfl, StW.zero _, H4.out.2.2, H4.out.2.1⟩
  have c7 : (((c.toNat : Nat) : Int) == 7) = false := by simp; omega
  by_cases h27 : c.toNat = 27
  · have HE : Hid (rf.text s c = ({ s with inn := 4 }, [])) := Lib.hid (by unfold rf.text; rw [if_neg hin4, if_neg h7, if_pos h27])
    clear c7
    generalize c.toNat = q at *
    subst h27
    clear hin4 h7
    have hr := HS2.out.a0
    have td0 : w2.cell? ⟨w.heap.size, 0, none⟩ = some (.int .i64 s.inn) := (cell_of_heap hr).trans rfl
    have te0 : w2.frozen? ⟨w.heap.size, 0, none⟩ = false := by simp [World.frozen?, hr]
    clear hr
    obtain ⟨w3, hw3⟩ : ∃ w3, w3 = w2.setCell ⟨w.heap.size, 0, none⟩ (.int .i64 4) := ⟨_, rfl⟩
    have HS3 : Hid (S2 w w3 #[.int .i64 4, .slice wo wn wq, .slice go gn gc, .int .u8 s.sign] #[.int .i64 0, .slice none 0 0, .slice none 0 0, .int .u8 0]) := Lib.hid (by rw [hw3]; exact HS2.out.setIn)
    go_upto_region 10 with fail
    rw [← hw3]
    clear hw3 td0 te0 sd0 HS2
    have hr := HS3.out.a0
    have sd0 : w3.cell? ⟨w.heap.size, 0, none⟩ = some (.int .i64 4) := (cell_of_heap hr).trans rfl
    have sd1 : w3.cell? ⟨w.heap.size, 1, none⟩ = some (.slice wo wn wq) := (cell_of_heap hr).trans rfl
    have sd2 : w3.cell? ⟨w.heap.size, 2, none⟩ = some (.slice go gn gc) := (cell_of_heap hr).trans rfl
    have sd3 : w3.cell? ⟨w.heap.size, 3, none⟩ = some (.int .u8 s.sign) := (cell_of_heap hr).trans rfl
    clear hr
    have hq := HS3.out.a1
    have zd0 : w3.cell? ⟨w.heap.size + 1, 0, none⟩ = some (.int .i64 0) := (cell_of_heap hq).trans rfl
    have ze0 : w3.frozen? ⟨w.heap.size + 1, 0, none⟩ = false := by simp [World.frozen?, hq]
    have zd1 : w3.cell? ⟨w.heap.size + 1, 1, none⟩ = some (.slice none 0 0) := (cell_of_heap hq).trans rfl
    have ze1 : w3.frozen? ⟨w.heap.size + 1, 1, none⟩ = false := by simp [World.frozen?, hq]
    have zd2 : w3.cell? ⟨w.heap.size + 1, 2, none⟩ = some (.slice none 0 0) := (cell_of_heap hq).trans rfl
    have ze2 : w3.frozen? ⟨w.heap.size + 1, 2, none⟩ = false := by simp [World.frozen?, hq]
    have zd3 : w3.cell? ⟨w.heap.size + 1, 3, none⟩ = some (.int .u8 0) := (cell_of_heap hq).trans rfl
    have ze3 : w3.frozen? ⟨w.heap.size + 1, 3, none⟩ = false := by simp [World.frozen?, hq]
    obtain ⟨hg4, hk4⟩ := store4 hq (.int .i64 4) (.slice wo wn wq) (.slice go gn gc) (.int .u8 s.sign)
    have H4 := Lib.hid (And.intro hg4 (HS3.out.bel.trans (hk4.below HS3.out.bel.size (fun k hk => by omega))))
    clear hg4 hk4 hq
    go_wp2_with fail
    refine bodyPost_ret (results_row_tmp rfl _ _ (w.heap.size + 1) 36 _ (0, 0) _ rfl H4.out.1 Tryd.underlying36 rfl (by kernel_rfl)) rfl ?_
    rw [HE.out]
    exact ⟨_, _, rfl, ⟨_, _, _, _, _, _, rfl, HW8.out.below H4.out.2, HG8.out.below H4.out.2⟩, ActsAt.nil _ _, H4.out.2⟩
  have c27 : (((c.toNat : Nat) : Int) == 27) = false := by simp; omega
  by_cases h24 : c.toNat = 24
  · have HE : Hid (rf.text s c = ({}, [])) := Lib.hid (by unfold rf.text; rw [if_neg hin4, if_neg h7, if_neg h27, if_pos (.inl h24)])
    clear c7 c27
    generalize c.toNat = q at *
    subst h24
    clear hin4 h7 h27
    have hq := HS2.out.a1
    have zd0 : w2.cell? ⟨w.heap.size + 1, 0, none⟩ = some (.int .i64 0) := (cell_of_heap hq).trans rfl
    have ze0 : w2.frozen? ⟨w.heap.size + 1, 0, none⟩ = false := by simp [World.frozen?, hq]
    have zd1 : w2.cell? ⟨w.heap.size + 1, 1, none⟩ = some (.slice none 0 0) := (cell_of_heap hq).trans rfl
    have ze1 : w2.frozen? ⟨w.heap.size + 1, 1, none⟩ = false := by simp [World.frozen?, hq]
    have zd2 : w2.cell? ⟨w.heap.size + 1, 2, none⟩ = some (.slice none 0 0) := (cell_of_heap hq).trans rfl
    have ze2 : w2.frozen? ⟨w.heap.size + 1, 2, none⟩ = false := by simp [World.frozen?, hq]
    have zd3 : w2.cell? ⟨w.heap.size + 1, 3, none⟩ = some (.int .u8 0) := (cell_of_heap hq).trans rfl
    have ze3 : w2.frozen? ⟨w.heap.size + 1, 3, none⟩ = false := by simp [World.frozen?, hq]
    obtain ⟨hg4, hk4⟩ := store4 hq (.int .i64 0) (.slice none 0 0) (.slice none 0 0) (.int .u8 0)
    have H4 := Lib.hid (And.intro hg4 (HS2.out.bel.trans (hk4.below HS2.out.bel.size (fun k hk => by omega))))
    clear hg4 hk4 hq
    go_wp2_with fail
    refine bodyPost_ret (results_row_tmp rfl _ _ (w.heap.size + 1) 36 _ (0, 0) _ rfl H4.out.1 Tryd.underlying36 rfl (by kernel_rfl)) rfl ?_
    rw [HE.out]
    exact ⟨_, _, rfl, StW.zero _, ActsAt.nil _ _, H4.out.2⟩
  have c24 : (((c.toNat : Nat) : Int) == 24) = false := by simp; omega
  by_cases h26 : c.toNat = 26
  · have HE : Hid (rf.text s c = ({}, [])) := Lib.hid (by unfold rf.text; rw [if_neg hin4, if_neg h7, if_neg h27, if_pos (.inr h26)])
    clear c7 c27 c24
    generalize c.toNat = q at *
    subst h26
    clear hin4 h7 h27 h24
    have hq := HS2.out.a1
    have zd0 : w2.cell? ⟨w.heap.size + 1, 0, none⟩ = some (.int .i64 0) := (cell_of_heap hq).trans rfl
    have ze0 : w2.frozen? ⟨w.heap.size + 1, 0, none⟩ = false := by simp [World.frozen?, hq]
    have zd1 : w2.cell? ⟨w.heap.size + 1, 1, none⟩ = some (.slice none 0 0) := (cell_of_heap hq).trans rfl
    have ze1 : w2.frozen? ⟨w.heap.size + 1, 1, none⟩ = false := by simp [World.frozen?, hq]
    have zd2 : w2.cell? ⟨w.heap.size + 1, 2, none⟩ = some (.slice none 0 0) := (cell_of_heap hq).trans rfl
    have ze2 : w2.frozen? ⟨w.heap.size + 1, 2, none⟩ = false := by simp [World.frozen?, hq]
    have zd3 : w2.cell? ⟨w.heap.size + 1, 3, none⟩ = some (.int .u8 0) := (cell_of_heap hq).trans rfl
    have ze3 : w2.frozen? ⟨w.heap.size + 1, 3, none⟩ = false := by simp [World.frozen?, hq]
    obtain ⟨hg4, hk4⟩ := store4 hq (.int .i64 0) (.slice none 0 0) (.slice none 0 0) (.int .u8 0)
    have H4 := Lib.hid (And.intro hg4 (HS2.out.bel.trans (hk4.below HS2.out.bel.size (fun k hk => by omega))))
    clear hg4 hk4 hq
    go_wp2_with fail
    refine bodyPost_ret (results_row_tmp rfl _ _ (w.heap.size + 1) 36 _ (0, 0) _ rfl H4.out.1 Tryd.underlying36 rfl (by kernel_rfl)) rfl ?_
    rw [HE.out]
    exact ⟨_, _, rfl, StW.zero _, ActsAt.nil _ _, H4.out.2⟩
  have c26 : (((c.toNat : Nat) : Int) == 26) = false := by simp; omega
  have hr := HS2.out.a0
  have ud0 : w2.cell? ⟨w.heap.size, 0, none⟩ = some (.int .i64 s.inn) := (cell_of_heap hr).trans rfl
  have ud1 : w2.cell? ⟨w.heap.size, 1, none⟩ = some (.slice wo wn wq) := (cell_of_heap hr).trans rfl
  have ud2 : w2.cell? ⟨w.heap.size, 2, none⟩ = some (.slice go gn gc) := (cell_of_heap hr).trans rfl
  have ud3 : w2.cell? ⟨w.heap.size, 3, none⟩ = some (.int .u8 s.sign) := (cell_of_heap hr).trans rfl
  clear hr
  by_cases h32 : 32 ≤ c.toNat ∧ s.got.length < 256
  · have HE : Hid (rf.text s c = ({ s with got := s.got ++ [c] }, [])) := Lib.hid (by unfold rf.text; rw [if_neg hin4, if_neg h7, if_neg h27, if_neg (by omega : ¬ (c.toNat = 24 ∨ c.toNat = 26)), if_pos h32])
    have c32 : (32 : Int) ≤ ((c.toNat : Nat) : Int) := by omega
    have g256 : (gn : Int) < 256 := by omega
    clear hin4 h7 h27 h24 h26 HA2
    go_upto_region 14 with fail
    clear ud0 ud1 ud3
    have HS := HS2
    clear HS2 HSZ2 HLT
    generalize w2 = w0 at *
    have hr := HS.out.a0
    have sd2 : w0.cell? ⟨w.heap.size, 2, none⟩ = some (.slice go gn gc) := (cell_of_heap hr).trans rfl
    clear hr
    go_wp2_with fail
    refine (refAdd_any go gn gc s.got c w0 (HG.out.below HS.out.bel) (by omega)).mono ?_
    rintro e w1 ⟨ro, rc, rfl, hO, hB⟩
    have HS1 := Lib.hid (HS.out.below hB)
    have HO := Lib.hid hO
    have HLT := Lib.hid HS.out.lt
    have hr := HS1.out.a0
    have td2 : w1.cell? ⟨w.heap.size, 2, none⟩ = some (.slice go gn gc) := (cell_of_heap hr).trans rfl
    have te2 : w1.frozen? ⟨w.heap.size, 2, none⟩ = false := by simp [World.frozen?, hr]
    clear hr hO hB HS sd2
    obtain ⟨w2, hw2⟩ : ∃ w2, w2 = w1.setCell ⟨w.heap.size, 2, none⟩ (.slice ro (gn + 1) rc) := ⟨_, rfl⟩
    have HS2 : Hid (S2 w w2 #[.int .i64 s.inn, .slice wo wn wq, .slice ro (gn + 1) rc, .int .u8 s.sign] #[.int .i64 0, .slice none 0 0, .slice none 0 0, .int .u8 0]) := Lib.hid (by rw [hw2]; exact HS1.out.setGot)
    have hk2 : Kept w1 w2 (· = w.heap.size) := by rw [hw2]; exact (Kept.refl w1 (· = w.heap.size)).setCell (p := ⟨w.heap.size, 2, none⟩) (fun _ => rfl) _
    have HO2 := Lib.hid (HO.out.kept hk2 (fun a ha e => by have := (HO.out.lt a ha).1; have := HLT.out; omega))
    clear hk2
    go_upto_region 15 with fail
    rw [← hw2]
    clear hw2 td2 te2
    have hr := HS2.out.a0
    have sd0 : w2.cell? ⟨w.heap.size, 0, none⟩ = some (.int .i64 s.inn) := (cell_of_heap hr).trans rfl
    have sd1 : w2.cell? ⟨w.heap.size, 1, none⟩ = some (.slice wo wn wq) := (cell_of_heap hr).trans rfl
    have sd2 : w2.cell? ⟨w.heap.size, 2, none⟩ = some (.slice ro (gn + 1) rc) := (cell_of_heap hr).trans rfl
    have sd3 : w2.cell? ⟨w.heap.size, 3, none⟩ = some (.int .u8 s.sign) := (cell_of_heap hr).trans rfl
    have hq := HS2.out.a1
    have zd0 : w2.cell? ⟨w.heap.size + 1, 0, none⟩ = some (.int .i64 0) := (cell_of_heap hq).trans rfl
    have ze0 : w2.frozen? ⟨w.heap.size + 1, 0, none⟩ = false := by simp [World.frozen?, hq]
    have zd1 : w2.cell? ⟨w.heap.size + 1, 1, none⟩ = some (.slice none 0 0) := (cell_of_heap hq).trans rfl
    have ze1 : w2.frozen? ⟨w.heap.size + 1, 1, none⟩ = false := by simp [World.frozen?, hq]
    have zd2 : w2.cell? ⟨w.heap.size + 1, 2, none⟩ = some (.slice none 0 0) := (cell_of_heap hq).trans rfl
    have ze2 : w2.frozen? ⟨w.heap.size + 1, 2, none⟩ = false := by simp [World.frozen?, hq]
    have zd3 : w2.cell? ⟨w.heap.size + 1, 3, none⟩ = some (.int .u8 0) := (cell_of_heap hq).trans rfl
    have ze3 : w2.frozen? ⟨w.heap.size + 1, 3, none⟩ = false := by simp [World.frozen?, hq]
    obtain ⟨hg4, hk4⟩ := store4 hq (.int .i64 s.inn) (.slice wo wn wq) (.slice ro (gn + 1) rc) (.int .u8 s.sign)
    have hb4 := HS2.out.bel.trans (hk4.below HS2.out.bel.size (fun k hk => by omega))
    have hO4 := B8.own (l := s.got ++ [c]) (HO2.out.kept hk4 (fun a ha e => by have := (HO2.out.lt a ha).1; have := HLT.out; omega))
    have H4 := Lib.hid (And.intro hg4 (And.intro hb4 hO4))
    clear hg4 hk4 hr hq hb4 hO4
    go_wp2_with fail
    refine bodyPost_ret (results_row_tmp rfl _ _ (w.heap.size + 1) 36 _ (0, 0) _ rfl H4.out.1 Tryd.underlying36 rfl (by kernel_rfl)) rfl ?_
    rw [HE.out]
    exact ⟨_, _, rfl, ⟨_, _, _, _, _, _, rfl, HW8.out.below H4.out.2.1, H4.out.2.2⟩, ActsAt.nil _ _, H4.out.2.1⟩
  · have HE : Hid (rf.text s c = (s, [])) := Lib.hid (by unfold rf.text; rw [if_neg hin4, if_neg h7, if_neg h27, if_neg (by omega : ¬ (c.toNat = 24 ∨ c.toNat = 26)), if_neg h32])
    by_cases c32 : (32 : Int) ≤ ((c.toNat : Nat) : Int)
    · have g256 : ¬ (gn : Int) < 256 := by omega
      clear hin4 h7 h27 h24 h26 HA2 h32
      have hq := HS2.out.a1
      have zd0 : w2.cell? ⟨w.heap.size + 1, 0, none⟩ = some (.int .i64 0) := (cell_of_heap hq).trans rfl
      have ze0 : w2.frozen? ⟨w.heap.size + 1, 0, none⟩ = false := by simp [World.frozen?, hq]
      have zd1 : w2.cell? ⟨w.heap.size + 1, 1, none⟩ = some (.slice none 0 0) := (cell_of_heap hq).trans rfl
      have ze1 : w2.frozen? ⟨w.heap.size + 1, 1, none⟩ = false := by simp [World.frozen?, hq]
      have zd2 : w2.cell? ⟨w.heap.size + 1, 2, none⟩ = some (.slice none 0 0) := (cell_of_heap hq).trans rfl
      have ze2 : w2.frozen? ⟨w.heap.size + 1, 2, none⟩ = false := by simp [World.frozen?, hq]
      have zd3 : w2.cell? ⟨w.heap.size + 1, 3, none⟩ = some (.int .u8 0) := (cell_of_heap hq).trans rfl
      have ze3 : w2.frozen? ⟨w.heap.size + 1, 3, none⟩ = false := by simp [World.frozen?, hq]
      obtain ⟨hg4, hk4⟩ := store4 hq (.int .i64 s.inn) (.slice wo wn wq) (.slice go gn gc) (.int .u8 s.sign)
      have H4 := Lib.hid (And.intro hg4 (HS2.out.bel.trans (hk4.below HS2.out.bel.size (fun k hk => by omega))))
      clear hg4 hk4 hq
      go_wp2_with fail
      refine bodyPost_ret (results_row_tmp rfl _ _ (w.heap.size + 1) 36 _ (0, 0) _ rfl H4.out.1 Tryd.underlying36 rfl (by kernel_rfl)) rfl ?_
      rw [HE.out]
      exact ⟨_, _, rfl, ⟨_, _, _, _, _, _, rfl, HW8.out.below H4.out.2, HG8.out.below H4.out.2⟩, ActsAt.nil _ _, H4.out.2⟩
    · clear hin4 h7 h27 h24 h26 HA2 h32
      have hq := HS2.out.a1
      have zd0 : w2.cell? ⟨w.heap.size + 1, 0, none⟩ = some (.int .i64 0) := (cell_of_heap hq).trans rfl
      have ze0 : w2.frozen? ⟨w.heap.size + 1, 0, none⟩ = false := by simp [World.frozen?, hq]
      have zd1 : w2.cell? ⟨w.heap.size + 1, 1, none⟩ = some (.slice none 0 0) := (cell_of_heap hq).trans rfl
      have ze1 : w2.frozen? ⟨w.heap.size + 1, 1, none⟩ = false := by simp [World.frozen?, hq]
      have zd2 : w2.cell? ⟨w.heap.size + 1, 2, none⟩ = some (.slice none 0 0) := (cell_of_heap hq).trans rfl
      have ze2 : w2.frozen? ⟨w.heap.size + 1, 2, none⟩ = false := by simp [World.frozen?, hq]
      have zd3 : w2.cell? ⟨w.heap.size + 1, 3, none⟩ = some (.int .u8 0) := (cell_of_heap hq).trans rfl
      have ze3 : w2.frozen? ⟨w.heap.size + 1, 3, none⟩ = false := by simp [World.frozen?, hq]
      obtain ⟨hg4, hk4⟩ := store4 hq (.int .i64 s.inn) (.slice wo wn wq) (.slice go gn gc) (.int .u8 s.sign)
      have H4 := Lib.hid (And.intro hg4 (HS2.out.bel.trans (hk4.below HS2.out.bel.size (fun k hk => by omega))))
      clear hg4 hk4 hq
      go_wp2_with fail
      refine bodyPost_ret (results_row_tmp rfl _ _ (w.heap.size + 1) 36 _ (0, 0) _ rfl H4.out.1 Tryd.underlying36 rfl (by kernel_rfl)) rfl ?_
      rw [HE.out]
      exact ⟨_, _, rfl, ⟨_, _, _, _, _, _, rfl, HW8.out.below H4.out.2, HG8.out.below H4.out.2⟩, ActsAt.nil _ _, H4.out.2⟩
end Go.Proofs.YtgkodjkhhmcnnaaDoor
namespace Go.Proofs.YtgkodjkhhmcnnaaDoor
open Go.RowKit
set_option maxRecDepth 100000 in
set_option maxHeartbeats 1600000 in
theorem refByteAll_any (v : Value) (s : rf.St) (c : UInt8) (w : World) (h : StW w v s) (hn : s.got.length ≤ 1099511627775) (hn2 : s.wait.length ≤ 1000) :
    Calls Tryd.prog 20 #[v, .int .u8 c.toNat] w (Said2 (rf.byte s c).1 (rf.byte s c).2 w) := by
  by_cases hs : s.inn = 3 ∨ s.inn = 4
  · have HE : Hid (rf.byte s c = rf.text s c) := Lib.hid (by unfold rf.byte; rw [if_pos hs])
    obtain ⟨wo, wn, wq, go, gn, gc, rfl, hw8, hg8⟩ := h
    have hw := hw8.b; have hg := hg8.b
    have HW8 := Lib.hid hw8; have HG8 := Lib.hid hg8
    clear hw8 hg8
    have hgl := hg.size
    have HW := Lib.hid hw; have HG := Lib.hid hg
    have HS := Lib.hid (S2.new w #[.int .i64 s.inn, .slice wo wn wq, .slice go gn gc, .int .u8 s.sign] #[.int .i64 0, .slice none 0 0, .slice none 0 0, .int .u8 0])
    clear hw hg
    go_enter Tryd.func20, Tryd.ntmps20
    go_upto_region 1 with fail
    generalize (w.alloc (.cells #[.int .i64 s.inn, .slice wo wn wq, .slice go gn gc, .int .u8 s.sign] 36)).alloc (.cells #[.int .i64 0, .slice none 0 0, .slice none 0 0, .int .u8 0] 36) = wE at *
    have hr := HS.out.a0
    have sd0 : wE.cell? ⟨w.heap.size, 0, none⟩ = some (.int .i64 s.inn) := (cell_of_heap hr).trans rfl
    have sd1 : wE.cell? ⟨w.heap.size, 1, none⟩ = some (.slice wo wn wq) := (cell_of_heap hr).trans rfl
    have sd2 : wE.cell? ⟨w.heap.size, 2, none⟩ = some (.slice go gn gc) := (cell_of_heap hr).trans rfl
    have sd3 : wE.cell? ⟨w.heap.size, 3, none⟩ = some (.int .u8 s.sign) := (cell_of_heap hr).trans rfl
    clear hr
    have HLT : Hid (w.heap.size + 1 < wE.heap.size) := Lib.hid HS.out.lt
    have HST : Hid (StW wE (.agg #[.int .i64 s.inn, .slice wo wn wq, .slice go gn gc, .int .u8 s.sign]) s) := Lib.hid ⟨wo, wn, wq, go, gn, gc, rfl, HW8.out.below HS.out.bel, HG8.out.below HS.out.bel⟩
    have hq : ∃ b : Bool, ((s.inn : Int) == 3) = b ∧ (b = false → ((s.inn : Int) == 4) = true) := ⟨_, rfl, fun h => by simp at h; simp; omega⟩
    obtain ⟨b, hb3, hb4⟩ := hq
    clear hs
    cases b with
    | true =>
      clear hb4
      go_wp2_with fail
      refine (refText_any _ s c wE HST.out hn).mono ?_
      intro e w1 hsaid
      obtain ⟨v2, V, he, hst, hA, hB⟩ := hsaid
      subst he
      obtain ⟨R, hR⟩ : ∃ R, rf.text s c = R := ⟨_, rfl⟩
      rw [hR] at HE hst hA
      clear hR
      obtain ⟨wo2, wn2, wq2, go2, gn2, gc2, rfl, hw2, hg2⟩ := hst
      have HS1 := Lib.hid (HS.out.below hB)
      have HA1 := Lib.hid hA; have HW1 := Lib.hid hw2; have HG1 := Lib.hid hg2
      clear hA hw2 hg2 hB sd0 sd1 sd2 sd3 HS
      have hq := HS1.out.a1
      have zd0 : w1.cell? ⟨w.heap.size + 1, 0, none⟩ = some (.int .i64 0) := (cell_of_heap hq).trans rfl
      have ze0 : w1.frozen? ⟨w.heap.size + 1, 0, none⟩ = false := by simp [World.frozen?, hq]
      have zd1 : w1.cell? ⟨w.heap.size + 1, 1, none⟩ = some (.slice none 0 0) := (cell_of_heap hq).trans rfl
      have ze1 : w1.frozen? ⟨w.heap.size + 1, 1, none⟩ = false := by simp [World.frozen?, hq]
      have zd2 : w1.cell? ⟨w.heap.size + 1, 2, none⟩ = some (.slice none 0 0) := (cell_of_heap hq).trans rfl
      have ze2 : w1.frozen? ⟨w.heap.size + 1, 2, none⟩ = false := by simp [World.frozen?, hq]
      have zd3 : w1.cell? ⟨w.heap.size + 1, 3, none⟩ = some (.int .u8 0) := (cell_of_heap hq).trans rfl
      have ze3 : w1.frozen? ⟨w.heap.size + 1, 3, none⟩ = false := by simp [World.frozen?, hq]
      obtain ⟨hg4, hk4⟩ := store4 hq (.int .i64 R.1.inn) (.slice wo2 wn2 wq2) (.slice go2 gn2 gc2) (.int .u8 R.1.sign)
      have H4 := Lib.hid (And.intro hg4 (And.intro (HS1.out.bel.trans (hk4.below HS1.out.bel.size (fun k hk => by omega))) ((HA1.out.keptP hk4 HLT.out).base_le (by have := HLT.out; omega : w.heap.size ≤ wE.heap.size))))
      have HB4 := Lib.hid (And.intro (HW1.out.kept hk4 hq) (HG1.out.kept hk4 hq))
      clear hg4 hk4 hq
      go_wp2_with fail
      refine bodyPost_ret (results_row_tmp rfl _ _ (w.heap.size + 1) 36 _ (0, 0) _ rfl H4.out.1 Tryd.underlying36 rfl (by kernel_rfl)) rfl ?_
      rw [HE.out]
      exact ⟨_, _, rfl, ⟨_, _, _, _, _, _, rfl, HB4.out.1, HB4.out.2⟩, H4.out.2.2, H4.out.2.1⟩
    | false =>
      have i4 := hb4 rfl
      clear hb4
      go_wp2_with fail
      refine (refText_any _ s c wE HST.out hn).mono ?_
      intro e w1 hsaid
      obtain ⟨v2, V, he, hst, hA, hB⟩ := hsaid
      subst he
      obtain ⟨R, hR⟩ : ∃ R, rf.text s c = R := ⟨_, rfl⟩
      rw [hR] at HE hst hA
      clear hR
      obtain ⟨wo2, wn2, wq2, go2, gn2, gc2, rfl, hw2, hg2⟩ := hst
      have HS1 := Lib.hid (HS.out.below hB)
      have HA1 := Lib.hid hA; have HW1 := Lib.hid hw2; have HG1 := Lib.hid hg2
      clear hA hw2 hg2 hB sd0 sd1 sd2 sd3 HS
      have hq := HS1.out.a1
      have zd0 : w1.cell? ⟨w.heap.size + 1, 0, none⟩ = some (.int .i64 0) := (cell_of_heap hq).trans rfl
      have ze0 : w1.frozen? ⟨w.heap.size + 1, 0, none⟩ = false := by simp [World.frozen?, hq]
      have zd1 : w1.cell? ⟨w.heap.size + 1, 1, none⟩ = some (.slice none 0 0) := (cell_of_heap hq).trans rfl
      have ze1 : w1.frozen? ⟨w.heap.size + 1, 1, none⟩ = false := by simp [World.frozen?, hq]
      have zd2 : w1.cell? ⟨w.heap.size + 1, 2, none⟩ = some (.slice none 0 0) := (cell_of_heap hq).trans rfl
      have ze2 : w1.frozen? ⟨w.heap.size + 1, 2, none⟩ = false := by simp [World.frozen?, hq]
      have zd3 : w1.cell? ⟨w.heap.size + 1, 3, none⟩ = some (.int .u8 0) := (cell_of_heap hq).trans rfl
      have ze3 : w1.frozen? ⟨w.heap.size + 1, 3, none⟩ = false := by simp [World.frozen?, hq]
      obtain ⟨hg4, hk4⟩ := store4 hq (.int .i64 R.1.inn) (.slice wo2 wn2 wq2) (.slice go2 gn2 gc2) (.int .u8 R.1.sign)
      have H4 := Lib.hid (And.intro hg4 (And.intro (HS1.out.bel.trans (hk4.below HS1.out.bel.size (fun k hk => by omega))) ((HA1.out.keptP hk4 HLT.out).base_le (by have := HLT.out; omega : w.heap.size ≤ wE.heap.size))))
      have HB4 := Lib.hid (And.intro (HW1.out.kept hk4 hq) (HG1.out.kept hk4 hq))
      clear hg4 hk4 hq
      go_wp2_with fail
      refine bodyPost_ret (results_row_tmp rfl _ _ (w.heap.size + 1) 36 _ (0, 0) _ rfl H4.out.1 Tryd.underlying36 rfl (by kernel_rfl)) rfl ?_
      rw [HE.out]
      exact ⟨_, _, rfl, ⟨_, _, _, _, _, _, rfl, HB4.out.1, HB4.out.2⟩, H4.out.2.2, H4.out.2.1⟩
  · have e : rf.byte s c = rf.byte0 s c := by unfold rf.byte; rw [if_neg hs]
    rw [e]
    exact refByte0_any v s c w h (by omega) hn hn2
theorem rf.byte0_small (s : rf.St) (c : UInt8) (h : s.wait.length ≤ 3) : (rf.byte0 s c).1.wait.length ≤ 3 ∧ (rf.byte0 s c).1.got.length ≤ s.got.length + 1 ∧ (rf.byte0 s c).2.length ≤ 5 := by
  have hr : (rf.rest s).length ≤ 3 := by unfold rf.rest; simpa using h
  have h1 := gl.rest_len (s.wait ++ [c])
  have h2 : (gl.read (s.wait ++ [c])).1.length + (gl.read (s.wait ++ [c])).2.length ≤ (s.wait ++ [c]).length := gl.read_len (s.wait ++ [c]).length (s.wait ++ [c]) (Nat.le_refl _)
  rw [List.length_append, List.length_singleton] at h2
  unfold rf.byte0
  split
  · exact ⟨by simp, by simp, by simpa using Nat.le_trans hr (by omega)⟩
  split
  · exact ⟨by simp, by simp, by simpa using Nat.le_trans hr (by omega)⟩
  split
  · exact ⟨by simp, by simp, by simp; omega⟩
  split
  · exact ⟨by simp, by simp, by simpa using Nat.le_trans hr (by omega)⟩
  split
  · unfold rf.behind
    split
    · exact ⟨h, by simp, by simp⟩
    split
    · exact ⟨by simp, by simp, by simp⟩
    split
    · exact ⟨by simp, by simp, by simp⟩
    split
    · exact ⟨by simp, by simp, by simp⟩
    · exact ⟨by simp, by simp, by simp⟩
  split
  · unfold rf.sequence
    split
    · exact ⟨by simp, by simp, by simp⟩
    split
    · exact ⟨h, by simp, by simp⟩
    split
    · exact ⟨by simp, by simp, by simp⟩
    · exact ⟨by simp, by simp, by simp⟩
  · refine ⟨h1, by simp, ?_⟩
    show ((gl.read (s.wait ++ [c])).1.map es.print).length ≤ 5
    rw [List.length_map]
    omega
theorem rf.byte_small (s : rf.St) (c : UInt8) (h : s.wait.length ≤ 3) : (rf.byte s c).1.wait.length ≤ 3 ∧ (rf.byte s c).1.got.length ≤ s.got.length + 1 ∧ (rf.byte s c).2.length ≤ 5 := by
  unfold rf.byte
  split
  · unfold rf.text
    split
    · split
      · exact ⟨by simp, by simp, by simp⟩
      · have := rf.byte0_small { inn := 1 } c (by simp)
        exact ⟨this.1, by have h3 := this.2.1; simp at h3; omega, this.2.2⟩
    split
    · exact ⟨by simp, by simp, by simp⟩
    split
    · exact ⟨h, by simp, by simp⟩
    split
    · exact ⟨by simp, by simp, by simp⟩
    split
    · exact ⟨h, by simp, by simp⟩
    · exact ⟨h, by simp, by simp⟩
  · exact rf.byte0_small s c h
theorem rf.feed_snoc : ∀ (l : List UInt8) (s : rf.St) (c : UInt8), rf.feed s (l ++ [c]) = ((rf.byte (rf.feed s l).1 c).1, (rf.feed s l).2 ++ (rf.byte (rf.feed s l).1 c).2)
  | [], s, c => by simp [rf.feed]
  | b :: l, s, c => by
    have := rf.feed_snoc l (rf.byte s b).1 c
    simp only [List.cons_append, rf.feed, this, List.append_assoc]
theorem rf.feed_small : ∀ (l : List UInt8) (s : rf.St), s.wait.length ≤ 3 → (rf.feed s l).1.wait.length ≤ 3 ∧ (rf.feed s l).1.got.length ≤ s.got.length + l.length ∧ (rf.feed s l).2.length ≤ 5 * l.length
  | [], s, h => ⟨h, by simp [rf.feed], by simp [rf.feed]⟩
  | b :: l, s, h => by
    obtain ⟨h1, h2, h3⟩ := rf.byte_small s b h
    obtain ⟨k1, k2, k3⟩ := rf.feed_small l (rf.byte s b).1 h1
    refine ⟨k1, ?_, ?_⟩
    · show (rf.feed (rf.byte s b).1 l).1.got.length ≤ _
      rw [List.length_cons]; omega
    · show ((rf.byte s b).2 ++ (rf.feed (rf.byte s b).1 l).2).length ≤ _
      rw [List.length_cons, List.length_append]; omega
/-- an act of a row, and its numbers -/
theorem ActsAt.at_ {w : World} {B : Nat} {V : Value} {l : List es.Act} (h : ActsAt w B V l) {k : Nat} (hk : k < l.length) : ∃ g cap po pc, V = .slice (some ⟨g, 0, none⟩) l.length cap ∧ l.length ≤ cap ∧ cap ≤ maxLen ∧ B ≤ g ∧ g < w.heap.size ∧ (∀ f, f < 7 → w.cell? ⟨g, k * 7 + f, none⟩ = (actC (l.getD k es.act0) po pc)[f]?) ∧ Act1 w B (l.getD k es.act0) po pc := by
  obtain ⟨L, h1, h2, h3⟩ := h
  have hL : L.length = l.length := by rw [← h1, List.length_map]
  rcases h2.2 with ⟨rfl, h0⟩ | ⟨g, cap, cur, rfl, hB, hg, hc, hm, _⟩
  · omega
  · have hlt : g < w.heap.size := (Array.getElem?_eq_some_iff.1 hg).1
    have hkL : k < L.length := by omega
    obtain ⟨q, hq⟩ : ∃ q, L[k]? = some q := ⟨_, List.getElem?_eq_getElem hkL⟩
    have hqm : q ∈ L := List.mem_of_getElem? hq
    have he : l.getD k es.act0 = q.1 := by rw [← h1]; simp [List.getD, hq]
    rw [he]
    exact ⟨g, cap, q.2.1, q.2.2, by rw [hL], by omega, hm, hB, hlt, fun f hf => by rw [h2.cellAt (k * 7 + f) (by omega), rowC_get L k f q hq hf], h3 q hqm⟩
/-- an act more: what is left, and where the row lies -/
theorem wpList_append_act2 {w : World} {ops : Array Oper} {rest : List Oper} {op : Oper} {a : Act} {Q : Exit → Act → World → Prop} (hgd : op.guard = none) (s x : Operand)
    (ho : op.op = .call { callee := .builtin .append, args := #[s, x], argTypes := #[37, 37] }) (B : Nat) (v : Value) (l : List es.Act) (hs : a.eval s = v) (hown : ActsAt w B v l)
    (g : Nat) (act : es.Act) (o : Option Addr) (cap : Nat) (hx : a.eval x = .slice (some ⟨g, 0, none⟩) 1 1) (hg : w.heap[g]? = some (.cells (actC act o cap).toArray 45 (0, 0))) (hp : Act1 w B act o cap)
    (hlen : l.length ≤ 1099511627776) (hbase : B ≤ w.heap.size)
    (h : ∀ v' w', ActsAt w' B v' (l ++ [act]) → Kept w w' (fun k => v.ownBlock = some k) → (v'.ownBlock = v.ownBlock ∨ v'.ownBlock = some w.heap.size) → wpList Tryd.prog ops Q rest (a.put op.dst v') w') : wpList Tryd.prog ops Q (op :: rest) a w := by
  obtain ⟨i0, hi, hz0, hz1, hz2⟩ := info_parts infoAct
  obtain ⟨L, h1, h2, h3⟩ := hown
  have hL : L.length = l.length := by rw [← h1, List.length_map]
  refine wpList_append_own_at (P := Tryd.prog) w hgd s x 37 ho B 45 i0 _ 7 72 Tryd.underlying37 hi hz0 hz1 hz2 rfl (by omega) v L.length (rowC L) hs h2
    ⟨g, 0, none⟩ 1 1 (actC act o cap) hx (by simp [actC]) (fun j u hu => ?_) (fun u hu => ?_) (by unfold maxLen; omega) (by omega) hbase (fun v' w' r1 r2 _ r4 => h v' w' ?_ ?_ r4)
  · rw [addr_b0, cell_of_heap hg]; simpa using hu
  · simp [actC] at hu
    rcases hu with rfl | rfl | rfl | rfl | rfl | rfl | rfl <;> rfl
  · refine ⟨L ++ [(act, o, cap)], by simp [h1], by rw [rowC_append, List.length_append]; exact r1, fun q hq => ?_⟩
    have hk := (Kept.refl w (fun k => v.ownBlock = some k)).grown r2 (fun k hk _ => hk)
    have hne : ∀ k c, B ≤ k → w.heap[k]? = some (.cells c 3 (0, 0)) → ¬ v.ownBlock = some k := by
      intro k c _ hkc hv
      rcases h2.2 with ⟨rfl, _⟩ | ⟨g', cap', cur', rfl, _, hg', _⟩
      · cases hv
      · obtain rfl : g' = k := by simpa [Value.ownBlock] using hv
        rw [hg'] at hkc
        simp at hkc
    rcases List.mem_append.1 hq with hq | hq
    · exact (h3 q hq).kept hk hne
    · obtain rfl : q = (act, o, cap) := by simpa using hq
      exact hp.kept hk hne
  · exact (Kept.refl w (fun k => v.ownBlock = some k)).grown r2 (fun k hk _ => hk)
end Go.Proofs.YtgkodjkhhmcnnaaDoor
