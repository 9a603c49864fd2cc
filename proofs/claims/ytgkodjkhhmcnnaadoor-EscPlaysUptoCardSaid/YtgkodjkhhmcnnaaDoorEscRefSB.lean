/- The document's parser, fourth part: a byte of a sequence, a byte behind an escape. The document's parser, fifth part: a byte behind an escape. -/
import Derived.Test.YtgkodjkhhmcnnaaDoorEscRefWhole
namespace Go.Proofs.YtgkodjkhhmcnnaaDoor
open Go.RowKit
/-- a row of one act, laid as it is -/
theorem acts_lit {W : World} {B g : Nat} (a : es.Act) (o : Option Addr) (cap : Nat) (hg : W.heap[g]? = some (.cells (actC a o cap).toArray 45 (0, 0))) (hB : B ≤ g) (h : Act1 W B a o cap) : ActsAt W B (.slice (some ⟨g, 0, none⟩) 1 1) [a] :=
  ⟨[(a, o, cap)], rfl, ⟨rfl, .inr ⟨g, 1, (actC a o cap).toArray, rfl, hB, hg, Nat.le_refl _, by unfold maxLen; omega, rfl, by simp [rowC]; rfl⟩⟩, fun q hq => by simp at hq; subst hq; exact h⟩
/-- bytes in a block of bytes -/
structure B8 (w : World) (o : Option Addr) (n c : Nat) (l : List UInt8) : Prop where
  b : Bts w o n c l
  t : n ≠ 0 → ∀ a, o = some a → ∃ cs fr, w.heap[a.block]? = some (.cells cs 5 fr)
theorem B8.nil (w : World) : B8 w none 0 0 [] := ⟨Bts.nil' w, fun h => absurd rfl h⟩
theorem B8.below {w w' : World} {o : Option Addr} {n c : Nat} {l : List UInt8} (h : B8 w o n c l) (hb : Below w.heap.size w w') : B8 w' o n c l :=
  ⟨h.b.below hb, fun h0 a ha => by obtain ⟨cs, fr, e⟩ := h.t h0 a ha; exact ⟨cs, fr, (hb.block _ (Array.getElem?_eq_some_iff.1 e).1).trans e⟩⟩
theorem B8.own {w : World} {B : Nat} {o : Option Addr} {n c : Nat} {l : List UInt8} (h : Own w B 5 .u8 o n c (u8s l)) : B8 w o n c l :=
  ⟨h.nums, fun h0 a ha => by
    rcases h.row.2 with ⟨e, h1⟩ | ⟨g, c', cur, e, h1, h2, _⟩
    · exact absurd h1 h0
    · cases e
      cases ha
      exact ⟨_, _, h2⟩⟩
theorem B8.kept {w w' : World} {o : Option Addr} {n c p : Nat} {l : List UInt8} {cs : Array Value} {fr : Nat × Nat} (h : B8 w o n c l) (hk : Kept w w' (· = p)) (hp : w.heap[p]? = some (.cells cs 36 fr)) : B8 w' o n c l := by
  have hne : n ≠ 0 → ∀ a, o = some a → a.block ≠ p := fun h0 a ha e => by
    obtain ⟨cs', fr', e'⟩ := h.t h0 a ha
    rw [e, hp] at e'
    cases e'
  refine ⟨?_, fun h0 a ha => ?_⟩
  · by_cases h0 : n = 0
    · exact ⟨h.b.len, h.b.le, h.b.max, .inl h0⟩
    · exact h.b.same (fun k hk' off hoff => hk.block k hk' (hne h0 _ hoff)) hk.size
  · obtain ⟨cs', fr', e'⟩ := h.t h0 a ha
    exact ⟨cs', fr', hk.same e' (hne h0 a ha)⟩
/-- the document's state as a value, its bytes in blocks of bytes -/
def StW (w : World) (v : Value) (s : rf.St) : Prop := ∃ wo wn wc go gn gc, v = .agg #[.int .i64 s.inn, .slice wo wn wc, .slice go gn gc, .int .u8 s.sign] ∧ B8 w wo wn wc s.wait ∧ B8 w go gn gc s.got
theorem StW.below {w w' : World} {v : Value} {s : rf.St} (h : StW w v s) (hb : Below w.heap.size w w') : StW w' v s := by
  obtain ⟨wo, wn, wc, go, gn, gc, h1, h2, h3⟩ := h
  exact ⟨wo, wn, wc, go, gn, gc, h1, h2.below hb, h3.below hb⟩
theorem StW.zero (w : World) : StW w (.agg #[.int .i64 0, .slice none 0 0, .slice none 0 0, .int .u8 0]) {} := ⟨_, _, _, _, _, _, rfl, B8.nil w, B8.nil w⟩
/-- what the document's steps answer -/
def Said2 (s : rf.St) (l : List es.Act) (w : World) (e : Ending) (w' : World) : Prop := ∃ v V, e = .returned (.tuple #[v, V]) ∧ StW w' v s ∧ ActsAt w' w.heap.size V l ∧ Below w.heap.size w w'
theorem store4 {w1 : World} {g : Nat} {z0 z1 z2 z3 : Value} {T : TypeId} (hg : w1.heap[g]? = some (.cells #[z0, z1, z2, z3] T (0, 0))) (a0 a1 a2 a3 : Value) :
    ((((w1.setCell ⟨g, 0, none⟩ a0).setCell ⟨g, 1, none⟩ a1).setCell ⟨g, 2, none⟩ a2).setCell ⟨g, 3, none⟩ a3).heap[g]? = some (.cells #[a0, a1, a2, a3] T (0, 0)) ∧ Kept w1 ((((w1.setCell ⟨g, 0, none⟩ a0).setCell ⟨g, 1, none⟩ a1).setCell ⟨g, 2, none⟩ a2).setCell ⟨g, 3, none⟩ a3) (· = g) := by
  refine ⟨?_, (((((Kept.refl w1 (· = g)).setCell (p := ⟨g, 0, none⟩) (fun _ => rfl) a0).setCell (p := ⟨g, 1, none⟩) (fun _ => rfl) a1).setCell (p := ⟨g, 2, none⟩) (fun _ => rfl) a2).setCell (p := ⟨g, 3, none⟩) (fun _ => rfl) a3)⟩
  have h0 := heap_setCell_same w1 g 0 _ T a0 hg
  simp only [List.setIfInBounds_toArray, List.set_cons_zero] at h0
  have h1 := heap_setCell_same (w1.setCell ⟨g, 0, none⟩ a0) g 1 _ T a1 h0
  simp only [List.setIfInBounds_toArray, List.set_cons_zero, List.set_cons_succ] at h1
  have h2 := heap_setCell_same ((w1.setCell ⟨g, 0, none⟩ a0).setCell ⟨g, 1, none⟩ a1) g 2 _ T a2 h1
  simp only [List.setIfInBounds_toArray, List.set_cons_zero, List.set_cons_succ] at h2
  have h3 := heap_setCell_same (((w1.setCell ⟨g, 0, none⟩ a0).setCell ⟨g, 1, none⟩ a1).setCell ⟨g, 2, none⟩ a2) g 3 _ T a3 h2
  simp only [List.setIfInBounds_toArray, List.set_cons_zero, List.set_cons_succ] at h3
  exact h3
/-- the state that came in and the answer's, in their blocks -/
structure S2 (w wx : World) (cs zs : Array Value) : Prop where
  bel : Below w.heap.size w wx
  a0 : wx.heap[w.heap.size]? = some (.cells cs 36 (0, 0))
  a1 : wx.heap[w.heap.size + 1]? = some (.cells zs 36 (0, 0))
theorem S2.lt {w wx : World} {cs zs : Array Value} (h : S2 w wx cs zs) : w.heap.size + 1 < wx.heap.size := (Array.getElem?_eq_some_iff.1 h.a1).1
theorem S2.below {w wx wy : World} {cs zs : Array Value} (h : S2 w wx cs zs) (hb : Below wx.heap.size wx wy) : S2 w wy cs zs :=
  ⟨h.bel.trans (hb.mono h.bel.size), (hb.block _ (by have := h.lt; omega)).trans h.a0, (hb.block _ h.lt).trans h.a1⟩
theorem S2.new (w : World) (cs zs : Array Value) : S2 w ((w.alloc (.cells cs 36)).alloc (.cells zs 36)) cs zs :=
  ⟨(below_one w _).trans ((below_one _ _).mono (by simp)), heap_alloc2_old w _ _, heap_alloc2_new w _ _⟩
theorem S2.setGot {w wx : World} {a b c d v : Value} {zs : Array Value} (h : S2 w wx #[a, b, c, d] zs) : S2 w (wx.setCell ⟨w.heap.size, 2, none⟩ v) #[a, b, v, d] zs := by
  have hk := (Kept.refl wx (· = w.heap.size)).setCell (p := ⟨w.heap.size, 2, none⟩) (fun _ => rfl) v
  exact ⟨h.bel.trans (hk.below h.bel.size (fun k hk => by omega)), heap_setCell_same wx w.heap.size 2 _ _ v h.a0, hk.same h.a1 (by omega)⟩
theorem S2.setIn {w wx : World} {a b c d v : Value} {zs : Array Value} (h : S2 w wx #[a, b, c, d] zs) : S2 w (wx.setCell ⟨w.heap.size, 0, none⟩ v) #[v, b, c, d] zs := by
  have hk := (Kept.refl wx (· = w.heap.size)).setCell (p := ⟨w.heap.size, 0, none⟩) (fun _ => rfl) v
  exact ⟨h.bel.trans (hk.below h.bel.size (fun k hk => by omega)), heap_setCell_same wx w.heap.size 0 _ _ v h.a0, hk.same h.a1 (by omega)⟩
theorem S2.setWait {w wx : World} {a b c d v : Value} {zs : Array Value} (h : S2 w wx #[a, b, c, d] zs) : S2 w (wx.setCell ⟨w.heap.size, 1, none⟩ v) #[a, v, c, d] zs := by
  have hk := (Kept.refl wx (· = w.heap.size)).setCell (p := ⟨w.heap.size, 1, none⟩) (fun _ => rfl) v
  exact ⟨h.bel.trans (hk.below h.bel.size (fun k hk => by omega)), heap_setCell_same wx w.heap.size 1 _ _ v h.a0, hk.same h.a1 (by omega)⟩
set_option maxRecDepth 100000 in
set_option maxHeartbeats 1600000 in
theorem refSequence_any (v : Value) (s : rf.St) (c : UInt8) (w : World) (h : StW w v s) (hn : s.got.length ≤ 1099511627775) :
    Calls Tryd.prog 38 #[v, .int .u8 c.toNat] w (Said2 (rf.sequence s c).1 (rf.sequence s c).2 w) := by
  obtain ⟨wo, wn, wc, go, gn, gc, rfl, hw8, hg8⟩ := h
  have hw := hw8.b; have hg := hg8.b
  have HW8 := Lib.hid hw8; have HG8 := Lib.hid hg8
  clear hw8 hg8
  have hgl := hg.size
  have HW := Lib.hid hw; have HG := Lib.hid hg
  have HS := Lib.hid (S2.new w #[.int .i64 s.inn, .slice wo wn wc, .slice go gn gc, .int .u8 s.sign] #[.int .i64 0, .slice none 0 0, .slice none 0 0, .int .u8 0])
  clear hw hg
  go_enter Tryd.func38, Tryd.ntmps38
  go_upto_region 1 with fail
  generalize (w.alloc (.cells #[.int .i64 s.inn, .slice wo wn wc, .slice go gn gc, .int .u8 s.sign] 36)).alloc (.cells #[.int .i64 0, .slice none 0 0, .slice none 0 0, .int .u8 0] 36) = w0 at *
  by_cases h128 : 128 ≤ c.toNat
  · have hi : (128 : Int) ≤ ((c.toNat : Nat) : Int) := by omega
    have HE : Hid (rf.sequence s c = ({}, [])) := Lib.hid (by unfold rf.sequence; rw [if_pos h128])
    have hr := HS.out.a1
    have zd0 : w0.cell? ⟨w.heap.size + 1, 0, none⟩ = some (.int .i64 0) := (cell_of_heap hr).trans rfl
    have ze0 : w0.frozen? ⟨w.heap.size + 1, 0, none⟩ = false := by simp [World.frozen?, hr]
    have zd1 : w0.cell? ⟨w.heap.size + 1, 1, none⟩ = some (.slice none 0 0) := (cell_of_heap hr).trans rfl
    have ze1 : w0.frozen? ⟨w.heap.size + 1, 1, none⟩ = false := by simp [World.frozen?, hr]
    have zd2 : w0.cell? ⟨w.heap.size + 1, 2, none⟩ = some (.slice none 0 0) := (cell_of_heap hr).trans rfl
    have ze2 : w0.frozen? ⟨w.heap.size + 1, 2, none⟩ = false := by simp [World.frozen?, hr]
    have zd3 : w0.cell? ⟨w.heap.size + 1, 3, none⟩ = some (.int .u8 0) := (cell_of_heap hr).trans rfl
    have ze3 : w0.frozen? ⟨w.heap.size + 1, 3, none⟩ = false := by simp [World.frozen?, hr]

    obtain ⟨hg4, hk4⟩ := store4 hr (.int .i64 0) (.slice none 0 0) (.slice none 0 0) (.int .u8 0)
    have H4 := Lib.hid (And.intro hg4 (HS.out.bel.trans (hk4.below HS.out.bel.size (fun k hk => by omega))))
    clear hg4 hk4 hr
    go_wp2_with fail
    refine bodyPost_ret (results_row_tmp rfl _ _ (w.heap.size + 1) 36 _ (0, 0) _ rfl H4.out.1 Tryd.underlying36 rfl (by kernel_rfl)) rfl ?_
    rw [HE.out]
    exact ⟨_, _, rfl, StW.zero _, ActsAt.nil _ _, H4.out.2⟩
  · have hi : ¬ (128 : Int) ≤ ((c.toNat : Nat) : Int) := by omega
    by_cases h64 : c.toNat < 64
    · have hi2 : ((c.toNat : Nat) : Int) < 64 := by omega
      have HE : Hid (rf.sequence s c = ({ s with got := s.got ++ [c] }, [])) := Lib.hid (by unfold rf.sequence; rw [if_neg h128, if_pos h64])
      have hr := HS.out.a0
      have sd2 : w0.cell? ⟨w.heap.size, 2, none⟩ = some (.slice go gn gc) := (cell_of_heap hr).trans rfl

      clear hr
      go_wp2_with fail
      refine (refAdd_any go gn gc s.got c w0 (HG.out.below HS.out.bel) (by omega)).mono ?_
      rintro e w1 ⟨ro, rc, rfl, hO, hB⟩
      have HW1 := Lib.hid (HW.out.below (HS.out.bel.trans (hB.mono HS.out.bel.size)))
      have HS1 := Lib.hid (HS.out.below hB)
      have HO := Lib.hid hO
      have HLT := Lib.hid HS.out.lt
      have hr := HS1.out.a0
      have td2 : w1.cell? ⟨w.heap.size, 2, none⟩ = some (.slice go gn gc) := (cell_of_heap hr).trans rfl
      have te2 : w1.frozen? ⟨w.heap.size, 2, none⟩ = false := by simp [World.frozen?, hr]

      clear hr hO hB HS sd2
      obtain ⟨w2, hw2⟩ : ∃ w2, w2 = w1.setCell ⟨w.heap.size, 2, none⟩ (.slice ro (gn + 1) rc) := ⟨_, rfl⟩
      have HS2 : Hid (S2 w w2 #[.int .i64 s.inn, .slice wo wn wc, .slice ro (gn + 1) rc, .int .u8 s.sign] #[.int .i64 0, .slice none 0 0, .slice none 0 0, .int .u8 0]) := Lib.hid (by rw [hw2]; exact HS1.out.setGot)
      have hk2 : Kept w1 w2 (· = w.heap.size) := by rw [hw2]; exact (Kept.refl w1 (· = w.heap.size)).setCell (p := ⟨w.heap.size, 2, none⟩) (fun _ => rfl) _
      have HO2 := Lib.hid (HO.out.kept hk2 (fun a ha e => by have := (HO.out.lt a ha).1; have := HLT.out; omega))
      clear hk2
      go_upto_region 5 with fail
      rw [← hw2]
      clear hw2 td2 te2
      have hr := HS2.out.a0
      have sd0 : w2.cell? ⟨w.heap.size, 0, none⟩ = some (.int .i64 s.inn) := (cell_of_heap hr).trans rfl
      have sd1 : w2.cell? ⟨w.heap.size, 1, none⟩ = some (.slice wo wn wc) := (cell_of_heap hr).trans rfl
      have sd2 : w2.cell? ⟨w.heap.size, 2, none⟩ = some (.slice ro (gn + 1) rc) := (cell_of_heap hr).trans rfl
      have sd3 : w2.cell? ⟨w.heap.size, 3, none⟩ = some (.int .u8 s.sign) := (cell_of_heap hr).trans rfl
      have hq := HS2.out.a1
      have zd0 : w2.cell? ⟨w.heap.size + 1, 0, none⟩ = some (.int .i64 0) := (cell_of_heap hq).trans rfl
      have ze0 : w2.frozen? ⟨w.heap.size + 1, 0, none⟩ = false := by simp [World.frozen?, hq]
      have zd1 : w2.cell? ⟨w.heap.size + 1, 1, none⟩ = some (.slice none 0 0) := (cell_of_heap hq).trans rfl
      have ze1 : w2.frozen? ⟨w.heap.size + 1, 1, none⟩ = false := by simp [World.frozen?, hq]
      have zd2 : w2.cell? ⟨w.heap.size + 1, 2, none⟩ = some (.slice none 0 0) := (cell_of_heap hq).trans rfl
      have ze2 : w2.frozen? ⟨w.heap.size + 1, 2, none⟩ = false := by simp [World.frozen?, hq]
      have zd3 : w2.cell? ⟨w.heap.size + 1, 3, none⟩ = some (.int .u8 0) := (cell_of_heap hq).trans rfl
      have ze3 : w2.frozen? ⟨w.heap.size + 1, 3, none⟩ = false := by simp [World.frozen?, hq]

      obtain ⟨hg4, hk4⟩ := store4 hq (.int .i64 s.inn) (.slice wo wn wc) (.slice ro (gn + 1) rc) (.int .u8 s.sign)
      have hb4 := HS2.out.bel.trans (hk4.below HS2.out.bel.size (fun k hk => by omega))
      have hO4 := B8.own (l := s.got ++ [c]) (HO2.out.kept hk4 (fun a ha e => by have := (HO2.out.lt a ha).1; have := HLT.out; omega))
      have H4 := Lib.hid (And.intro hg4 (And.intro hb4 hO4))
      clear hg4 hk4 hr hq hb4 hO4
      go_wp2_with fail
      refine bodyPost_ret (results_row_tmp rfl _ _ (w.heap.size + 1) 36 _ (0, 0) _ rfl H4.out.1 Tryd.underlying36 rfl (by kernel_rfl)) rfl ?_
      rw [HE.out]
      exact ⟨_, _, rfl, ⟨_, _, _, _, _, _, rfl, HW8.out.below H4.out.2.1, H4.out.2.2⟩, ActsAt.nil _ _, H4.out.2.1⟩
    · have hi2 : ¬ ((c.toNat : Nat) : Int) < 64 := by omega
      have hr := HS.out.a0
      have sd2 : w0.cell? ⟨w.heap.size, 2, none⟩ = some (.slice go gn gc) := (cell_of_heap hr).trans rfl

      clear hr
      go_wp2_with fail
      refine (refWhole_any go gn gc s.got c w0 (HG.out.below HS.out.bel) (by omega)).mono ?_
      rintro e w1 ⟨hB, po, pc, rfl, hv⟩
      have HS1 := Lib.hid (HS.out.below hB)
      have HV := Lib.hid hv
      have HLT := Lib.hid (And.intro HS.out.lt hB.size)
      generalize hAg : rf.wholeA s.got c = A at *
      have HAG := Lib.hid hAg
      unfold actC
      clear hv hB HS sd2 hAg
      have HSA := Lib.hid (HS1.out.below (below_one w1 (.cells #[.int .i64 A.kind, .int .i32 A.r, .int .u8 A.final, .int .u8 A.priv, .string ⟨A.inter.toArray⟩, .slice po A.params.length pc, .string ⟨A.text.toArray⟩] 45)))
      have HAN := Lib.hid (heap_alloc_new w1 (.cells #[.int .i64 A.kind, .int .i32 A.r, .int .u8 A.final, .int .u8 A.priv, .string ⟨A.inter.toArray⟩, .slice po A.params.length pc, .string ⟨A.text.toArray⟩] 45))
      have HVA := Lib.hid (HV.out.kept (Kept.of_below (below_one w1 (.cells #[.int .i64 A.kind, .int .i32 A.r, .int .u8 A.final, .int .u8 A.priv, .string ⟨A.inter.toArray⟩, .slice po A.params.length pc, .string ⟨A.text.toArray⟩] 45)) (fun _ => False)) (fun _ _ _ _ h => h))
      have HSZ : Hid ((w1.alloc (.cells #[.int .i64 A.kind, .int .i32 A.r, .int .u8 A.final, .int .u8 A.priv, .string ⟨A.inter.toArray⟩, .slice po A.params.length pc, .string ⟨A.text.toArray⟩] 45)).heap.size = w1.heap.size + 1) := Lib.hid (by simp)
      go_upto_region 7 with fail
      generalize w1.alloc (.cells #[.int .i64 A.kind, .int .i32 A.r, .int .u8 A.final, .int .u8 A.priv, .string ⟨A.inter.toArray⟩, .slice po A.params.length pc, .string ⟨A.text.toArray⟩] 45) = wA at *
      obtain ⟨ok, hok⟩ : ∃ ok, rf.wholeOk s.got = ok := ⟨_, rfl⟩
      rw [hok]
      have HOK := Lib.hid hok
      clear hok
      cases ok with
      | false =>
        have HE : Hid (rf.sequence s c = ({}, [])) := Lib.hid (by unfold rf.sequence; rw [if_neg h128, if_neg h64, HOK.out]; rfl)
        have hq := HSA.out.a1
        have zd0 : wA.cell? ⟨w.heap.size + 1, 0, none⟩ = some (.int .i64 0) := (cell_of_heap hq).trans rfl
        have ze0 : wA.frozen? ⟨w.heap.size + 1, 0, none⟩ = false := by simp [World.frozen?, hq]
        have zd1 : wA.cell? ⟨w.heap.size + 1, 1, none⟩ = some (.slice none 0 0) := (cell_of_heap hq).trans rfl
        have ze1 : wA.frozen? ⟨w.heap.size + 1, 1, none⟩ = false := by simp [World.frozen?, hq]
        have zd2 : wA.cell? ⟨w.heap.size + 1, 2, none⟩ = some (.slice none 0 0) := (cell_of_heap hq).trans rfl
        have ze2 : wA.frozen? ⟨w.heap.size + 1, 2, none⟩ = false := by simp [World.frozen?, hq]
        have zd3 : wA.cell? ⟨w.heap.size + 1, 3, none⟩ = some (.int .u8 0) := (cell_of_heap hq).trans rfl
        have ze3 : wA.frozen? ⟨w.heap.size + 1, 3, none⟩ = false := by simp [World.frozen?, hq]

        obtain ⟨hg4, hk4⟩ := store4 hq (.int .i64 0) (.slice none 0 0) (.slice none 0 0) (.int .u8 0)
        have H4 := Lib.hid (And.intro hg4 (HSA.out.bel.trans (hk4.below HSA.out.bel.size (fun k hk => by omega))))
        clear hg4 hk4 hq
        go_wp2_with fail
        refine bodyPost_ret (results_row_tmp rfl _ _ (w.heap.size + 1) 36 _ (0, 0) _ rfl H4.out.1 Tryd.underlying36 rfl (by kernel_rfl)) rfl ?_
        rw [HE.out]
        exact ⟨_, _, rfl, StW.zero _, ActsAt.nil _ _, H4.out.2⟩
      | true =>
        have HE : Hid (rf.sequence s c = ({}, [A])) := Lib.hid (by unfold rf.sequence; rw [if_neg h128, if_neg h64, HOK.out, ← HAG.out]; unfold rf.wholeA; rw [HOK.out]; rfl)
        have hr := HAN.out
        have xd0 : wA.cell? ⟨w1.heap.size, 0, none⟩ = some (.int .i64 A.kind) := (cell_of_heap hr).trans rfl
        have xd1 : wA.cell? ⟨w1.heap.size, 1, none⟩ = some (.int .i32 A.r) := (cell_of_heap hr).trans rfl
        have xd2 : wA.cell? ⟨w1.heap.size, 2, none⟩ = some (.int .u8 A.final) := (cell_of_heap hr).trans rfl
        have xd3 : wA.cell? ⟨w1.heap.size, 3, none⟩ = some (.int .u8 A.priv) := (cell_of_heap hr).trans rfl
        have xd4 : wA.cell? ⟨w1.heap.size, 4, none⟩ = some (.string ⟨A.inter.toArray⟩) := (cell_of_heap hr).trans rfl
        have xd5 : wA.cell? ⟨w1.heap.size, 5, none⟩ = some (.slice po A.params.length pc) := (cell_of_heap hr).trans rfl
        have xd6 : wA.cell? ⟨w1.heap.size, 6, none⟩ = some (.string ⟨A.text.toArray⟩) := (cell_of_heap hr).trans rfl
        have hq := HSA.out.a1
        have zd0 : wA.cell? ⟨w.heap.size + 1, 0, none⟩ = some (.int .i64 0) := (cell_of_heap hq).trans rfl
        have ze0 : wA.frozen? ⟨w.heap.size + 1, 0, none⟩ = false := by simp [World.frozen?, hq]
        have zd1 : wA.cell? ⟨w.heap.size + 1, 1, none⟩ = some (.slice none 0 0) := (cell_of_heap hq).trans rfl
        have ze1 : wA.frozen? ⟨w.heap.size + 1, 1, none⟩ = false := by simp [World.frozen?, hq]
        have zd2 : wA.cell? ⟨w.heap.size + 1, 2, none⟩ = some (.slice none 0 0) := (cell_of_heap hq).trans rfl
        have ze2 : wA.frozen? ⟨w.heap.size + 1, 2, none⟩ = false := by simp [World.frozen?, hq]
        have zd3 : wA.cell? ⟨w.heap.size + 1, 3, none⟩ = some (.int .u8 0) := (cell_of_heap hq).trans rfl
        have ze3 : wA.frozen? ⟨w.heap.size + 1, 3, none⟩ = false := by simp [World.frozen?, hq]

        obtain ⟨hg4, hk4⟩ := store4 hq (.int .i64 0) (.slice none 0 0) (.slice none 0 0) (.int .u8 0)
        have hb4 := HSA.out.bel.trans (hk4.below HSA.out.bel.size (fun k hk => by omega))
        have hv4 := HVA.out.kept hk4 (fun k c hk _ e => by have := HLT.out; omega)
        have hs4 : ((((wA.setCell ⟨w.heap.size + 1, 0, none⟩ (.int .i64 0)).setCell ⟨w.heap.size + 1, 1, none⟩ (.slice none 0 0)).setCell ⟨w.heap.size + 1, 2, none⟩ (.slice none 0 0)).setCell ⟨w.heap.size + 1, 3, none⟩ (.int .u8 0)).heap.size = wA.heap.size := by simp
        have HF : Hid (((((((wA.setCell ⟨w.heap.size + 1, 0, none⟩ (.int .i64 0)).setCell ⟨w.heap.size + 1, 1, none⟩ (.slice none 0 0)).setCell ⟨w.heap.size + 1, 2, none⟩ (.slice none 0 0)).setCell ⟨w.heap.size + 1, 3, none⟩ (.int .u8 0)).alloc (.cells #[.int .i64 A.kind, .int .i32 A.r, .int .u8 A.final, .int .u8 A.priv, .string ⟨A.inter.toArray⟩, .slice po A.params.length pc, .string ⟨A.text.toArray⟩] 45)).drew).heap[w.heap.size + 1]? = some (.cells #[.int .i64 0, .slice none 0 0, .slice none 0 0, .int .u8 0] 36 (0, 0)) ∧ ActsAt ((((((wA.setCell ⟨w.heap.size + 1, 0, none⟩ (.int .i64 0)).setCell ⟨w.heap.size + 1, 1, none⟩ (.slice none 0 0)).setCell ⟨w.heap.size + 1, 2, none⟩ (.slice none 0 0)).setCell ⟨w.heap.size + 1, 3, none⟩ (.int .u8 0)).alloc (.cells #[.int .i64 A.kind, .int .i32 A.r, .int .u8 A.final, .int .u8 A.priv, .string ⟨A.inter.toArray⟩, .slice po A.params.length pc, .string ⟨A.text.toArray⟩] 45)).drew) w.heap.size (.slice (some ⟨wA.heap.size, 0, none⟩) 1 1) [A] ∧ Below w.heap.size w ((((((wA.setCell ⟨w.heap.size + 1, 0, none⟩ (.int .i64 0)).setCell ⟨w.heap.size + 1, 1, none⟩ (.slice none 0 0)).setCell ⟨w.heap.size + 1, 2, none⟩ (.slice none 0 0)).setCell ⟨w.heap.size + 1, 3, none⟩ (.int .u8 0)).alloc (.cells #[.int .i64 A.kind, .int .i32 A.r, .int .u8 A.final, .int .u8 A.priv, .string ⟨A.inter.toArray⟩, .slice po A.params.length pc, .string ⟨A.text.toArray⟩] 45)).drew)) := by
          generalize ((((wA.setCell ⟨w.heap.size + 1, 0, none⟩ (.int .i64 0)).setCell ⟨w.heap.size + 1, 1, none⟩ (.slice none 0 0)).setCell ⟨w.heap.size + 1, 2, none⟩ (.slice none 0 0)).setCell ⟨w.heap.size + 1, 3, none⟩ (.int .u8 0)) = W4 at *
          have hbd : Below W4.heap.size W4 (W4.alloc (.cells #[.int .i64 A.kind, .int .i32 A.r, .int .u8 A.final, .int .u8 A.priv, .string ⟨A.inter.toArray⟩, .slice po A.params.length pc, .string ⟨A.text.toArray⟩] 45)).drew := (below_one W4 _).drew
          have hnew := heap_alloc_new W4 (.cells #[.int .i64 A.kind, .int .i32 A.r, .int .u8 A.final, .int .u8 A.priv, .string ⟨A.inter.toArray⟩, .slice po A.params.length pc, .string ⟨A.text.toArray⟩] 45)
          rw [hs4] at hnew
          refine Lib.hid ⟨(hbd.block _ (by rw [hs4]; exact HSA.out.lt)).trans hg4, ?_, hb4.trans (hbd.mono hb4.size)⟩
          exact (acts_lit (W := (W4.alloc (.cells #[.int .i64 A.kind, .int .i32 A.r, .int .u8 A.final, .int .u8 A.priv, .string ⟨A.inter.toArray⟩, .slice po A.params.length pc, .string ⟨A.text.toArray⟩] 45)).drew) (B := w0.heap.size) (g := wA.heap.size) A po pc hnew (by have := HLT.out; have := HSZ.out; omega) (hv4.kept (Kept.of_below hbd (fun _ => False)) (fun _ _ _ _ h => h))).base_le (by have := HLT.out; omega)
        clear hr hq hg4 hk4 hb4 hv4 hs4
        have hlt := HSA.out.lt
        have hlt1 : w.heap.size + 1 < w1.heap.size := by have := HLT.out; omega
        have hlt2 : w1.heap.size < wA.heap.size := by have := HSZ.out; omega
        go_upto_region 9 with fail
        go_region_with fail
        all_goals go_wp2_with fail
        all_goals refine bodyPost_ret (results_row_tmp rfl _ _ (w.heap.size + 1) 36 _ (0, 0) _ rfl HF.out.1 Tryd.underlying36 rfl (by kernel_rfl)) rfl ?_
        all_goals rw [HE.out]
        all_goals exact ⟨_, _, rfl, StW.zero _, HF.out.2.1, HF.out.2.2⟩
end Go.Proofs.YtgkodjkhhmcnnaaDoor
namespace Go.Proofs.YtgkodjkhhmcnnaaDoor
open Go.RowKit
set_option maxRecDepth 100000 in
set_option maxHeartbeats 1600000 in
theorem refBehind_any (v : Value) (s : rf.St) (c : UInt8) (w : World) (h : StW w v s) (hn : s.got.length ≤ 1099511627775) :
    Calls Tryd.prog 37 #[v, .int .u8 c.toNat] w (Said2 (rf.behind s c).1 (rf.behind s c).2 w) := by
  obtain ⟨wo, wn, wq, go, gn, gc, rfl, hw8, hg8⟩ := h
  have hw := hw8.b; have hg := hg8.b
  have HW8 := Lib.hid hw8; have HG8 := Lib.hid hg8
  clear hw8 hg8
  have hgl := hg.size
  have HW := Lib.hid hw; have HG := Lib.hid hg
  have HS := Lib.hid (S2.new w #[.int .i64 s.inn, .slice wo wn wq, .slice go gn gc, .int .u8 s.sign] #[.int .i64 0, .slice none 0 0, .slice none 0 0, .int .u8 0])
  clear hw hg
  go_enter Tryd.func37, Tryd.ntmps37
  go_upto_region 1 with fail
  generalize (w.alloc (.cells #[.int .i64 s.inn, .slice wo wn wq, .slice go gn gc, .int .u8 s.sign] 36)).alloc (.cells #[.int .i64 0, .slice none 0 0, .slice none 0 0, .int .u8 0] 36) = w0 at *
  by_cases h48 : c.toNat < 48
  · have hi : ((c.toNat : Nat) : Int) < 48 := by omega
    have HE : Hid (rf.behind s c = ({ s with got := s.got ++ [c] }, [])) := Lib.hid (by unfold rf.behind; rw [if_pos h48])
    have hr := HS.out.a0
    have sd2 : w0.cell? ⟨w.heap.size, 2, none⟩ = some (.slice go gn gc) := (cell_of_heap hr).trans rfl
    clear hr
    go_wp2_with fail
    refine (refAdd_any go gn gc s.got c w0 (HG.out.below HS.out.bel) (by omega)).mono ?_
    rintro e w1 ⟨ro, rc, rfl, hO, hB⟩
    have HS1 := Lib.hid (HS.out.below hB)
    have HO := Lib.hid hO
    have HLT := Lib.hid HS.out.lt
    have hr := HS1.out.a0
    have td2 : w1.cell? ⟨w.heap.size, 2, none⟩ = some (.slice go gn gc) := (cell_of_heap hr).trans rfl
    have te2 : w1.frozen? ⟨w.heap.size, 2, none⟩ = false := by simp [World.frozen?, hr]
    clear hr hO hB HS sd2
    obtain ⟨w2, hw2⟩ : ∃ w2, w2 = w1.setCell ⟨w.heap.size, 2, none⟩ (.slice ro (gn + 1) rc) := ⟨_, rfl⟩
    have HS2 : Hid (S2 w w2 #[.int .i64 s.inn, .slice wo wn wq, .slice ro (gn + 1) rc, .int .u8 s.sign] #[.int .i64 0, .slice none 0 0, .slice none 0 0, .int .u8 0]) := Lib.hid (by rw [hw2]; exact HS1.out.setGot)
    have hk2 : Kept w1 w2 (· = w.heap.size) := by rw [hw2]; exact (Kept.refl w1 (· = w.heap.size)).setCell (p := ⟨w.heap.size, 2, none⟩) (fun _ => rfl) _
    have HO2 := Lib.hid (HO.out.kept hk2 (fun a ha e => by have := (HO.out.lt a ha).1; have := HLT.out; omega))
    clear hk2
    go_upto_region 3 with fail
    rw [← hw2]
    clear hw2 td2 te2
    have hr := HS2.out.a0
    have sd0 : w2.cell? ⟨w.heap.size, 0, none⟩ = some (.int .i64 s.inn) := (cell_of_heap hr).trans rfl
    have sd1 : w2.cell? ⟨w.heap.size, 1, none⟩ = some (.slice wo wn wq) := (cell_of_heap hr).trans rfl
    have sd2 : w2.cell? ⟨w.heap.size, 2, none⟩ = some (.slice ro (gn + 1) rc) := (cell_of_heap hr).trans rfl
    have sd3 : w2.cell? ⟨w.heap.size, 3, none⟩ = some (.int .u8 s.sign) := (cell_of_heap hr).trans rfl
    have hq := HS2.out.a1
    have zd0 : w2.cell? ⟨w.heap.size + 1, 0, none⟩ = some (.int .i64 0) := (cell_of_heap hq).trans rfl
    have ze0 : w2.frozen? ⟨w.heap.size + 1, 0, none⟩ = false := by simp [World.frozen?, hq]
    have zd1 : w2.cell? ⟨w.heap.size + 1, 1, none⟩ = some (.slice none 0 0) := (cell_of_heap hq).trans rfl
    have ze1 : w2.frozen? ⟨w.heap.size + 1, 1, none⟩ = false := by simp [World.frozen?, hq]
    have zd2 : w2.cell? ⟨w.heap.size + 1, 2, none⟩ = some (.slice none 0 0) := (cell_of_heap hq).trans rfl
    have ze2 : w2.frozen? ⟨w.heap.size + 1, 2, none⟩ = false := by simp [World.frozen?, hq]
    have zd3 : w2.cell? ⟨w.heap.size + 1, 3, none⟩ = some (.int .u8 0) := (cell_of_heap hq).trans rfl
    have ze3 : w2.frozen? ⟨w.heap.size + 1, 3, none⟩ = false := by simp [World.frozen?, hq]
    obtain ⟨hg4, hk4⟩ := store4 hq (.int .i64 s.inn) (.slice wo wn wq) (.slice ro (gn + 1) rc) (.int .u8 s.sign)
    have hb4 := HS2.out.bel.trans (hk4.below HS2.out.bel.size (fun k hk => by omega))
    have hO4 := B8.own (l := s.got ++ [c]) (HO2.out.kept hk4 (fun a ha e => by have := (HO2.out.lt a ha).1; have := HLT.out; omega))
    have H4 := Lib.hid (And.intro hg4 (And.intro hb4 hO4))
    clear hg4 hk4 hr hq hb4 hO4
    go_wp2_with fail
    refine bodyPost_ret (results_row_tmp rfl _ _ (w.heap.size + 1) 36 _ (0, 0) _ rfl H4.out.1 Tryd.underlying36 rfl (by kernel_rfl)) rfl ?_
    rw [HE.out]
    exact ⟨_, _, rfl, ⟨_, _, _, _, _, _, rfl, HW8.out.below H4.out.2.1, H4.out.2.2⟩, ActsAt.nil _ _, H4.out.2.1⟩
  have hi : ¬ ((c.toNat : Nat) : Int) < 48 := by omega
  have hr := HS.out.a0
  have sd2 : w0.cell? ⟨w.heap.size, 2, none⟩ = some (.slice go gn gc) := (cell_of_heap hr).trans rfl
  clear hr
  go_upto_region 4 with fail
  go_cut [21] (fun s21 wx => s21 = .bool (decide (s.got.length = 0 ∧ c.toNat = 91)) ∧ wx = w0)
  case first =>
    generalize hcq : c.toNat = q at *
    have HQ := Lib.hid hcq
    have HGL := Lib.hid hgl
    clear hcq hgl hn
    by_cases h0 : gn = 0
    · subst h0
      by_cases h1 : q = 91
      · subst h1
        go_wp2_with fail
        go_meet
        exact ⟨by simp [HGL.out], rfl⟩
      · have h1i : ((q : Int) == 91) = false := by simp; omega
        go_wp2_with fail
        go_meet
        exact ⟨by rw [decide_eq_false (show ¬ (s.got.length = 0 ∧ q = 91) by omega)], rfl⟩
    · have h0i : ((gn : Int) == 0) = false := by simp; omega
      go_wp2_with fail
      go_meet
      exact ⟨by rw [decide_eq_false (show ¬ (s.got.length = 0 ∧ q = 91) by have := HGL.out; omega)], rfl⟩
  case rest =>
  obtain ⟨rfl, rfl⟩ := hcut
  generalize wc = w0 at *
  by_cases h91 : s.got.length = 0 ∧ c.toNat = 91
  · rw [decide_eq_true h91]
    have HE : Hid (rf.behind s c = ({ inn := 2 }, [])) := Lib.hid (by unfold rf.behind; rw [if_neg h48, if_pos h91])
    clear h91
    have hq := HS.out.a1
    have zd0 : w0.cell? ⟨w.heap.size + 1, 0, none⟩ = some (.int .i64 0) := (cell_of_heap hq).trans rfl
    have ze0 : w0.frozen? ⟨w.heap.size + 1, 0, none⟩ = false := by simp [World.frozen?, hq]
    have zd1 : w0.cell? ⟨w.heap.size + 1, 1, none⟩ = some (.slice none 0 0) := (cell_of_heap hq).trans rfl
    have ze1 : w0.frozen? ⟨w.heap.size + 1, 1, none⟩ = false := by simp [World.frozen?, hq]
    have zd2 : w0.cell? ⟨w.heap.size + 1, 2, none⟩ = some (.slice none 0 0) := (cell_of_heap hq).trans rfl
    have ze2 : w0.frozen? ⟨w.heap.size + 1, 2, none⟩ = false := by simp [World.frozen?, hq]
    have zd3 : w0.cell? ⟨w.heap.size + 1, 3, none⟩ = some (.int .u8 0) := (cell_of_heap hq).trans rfl
    have ze3 : w0.frozen? ⟨w.heap.size + 1, 3, none⟩ = false := by simp [World.frozen?, hq]
    obtain ⟨hg4, hk4⟩ := store4 hq (.int .i64 2) (.slice none 0 0) (.slice none 0 0) (.int .u8 0)
    have H4 := Lib.hid (And.intro hg4 (HS.out.bel.trans (hk4.below HS.out.bel.size (fun k hk => by omega))))
    clear hg4 hk4 hq
    go_wp2_with fail
    refine bodyPost_ret (results_row_tmp rfl _ _ (w.heap.size + 1) 36 _ (0, 0) _ rfl H4.out.1 Tryd.underlying36 rfl (by kernel_rfl)) rfl ?_
    rw [HE.out]
    exact ⟨_, _, rfl, ⟨_, _, _, _, _, _, rfl, B8.nil _, B8.nil _⟩, ActsAt.nil _ _, H4.out.2⟩
  rw [decide_eq_false h91]
  go_upto_region 6 with fail
  go_cut [46] (fun s46 wx => s46 = .bool (decide (s.got.length = 0 ∧ rf.strSign c = true)) ∧ wx = w0)
  case first =>
    clear h91
    generalize hcq : c.toNat = q at *
    have HQ := Lib.hid hcq
    have HGL := Lib.hid hgl
    clear hcq hgl hn
    by_cases h0 : gn = 0
    · subst h0
      by_cases g0 : q = 93
      · subst g0
        go_wp2_with fail
        go_meet
        exact ⟨by simp [rf.strSign, HGL.out, HQ.out], rfl⟩
      have g0i : ((q : Int) == 93) = false := by simp; omega
      by_cases g1 : q = 80
      · subst g1
        go_wp2_with fail
        go_meet
        exact ⟨by simp [rf.strSign, HGL.out, HQ.out], rfl⟩
      have g1i : ((q : Int) == 80) = false := by simp; omega
      by_cases g2 : q = 88
      · subst g2
        go_wp2_with fail
        go_meet
        exact ⟨by simp [rf.strSign, HGL.out, HQ.out], rfl⟩
      have g2i : ((q : Int) == 88) = false := by simp; omega
      by_cases g3 : q = 94
      · subst g3
        go_wp2_with fail
        go_meet
        exact ⟨by simp [rf.strSign, HGL.out, HQ.out], rfl⟩
      have g3i : ((q : Int) == 94) = false := by simp; omega
      by_cases g4 : q = 95
      · subst g4
        go_wp2_with fail
        go_meet
        exact ⟨by simp [rf.strSign, HGL.out, HQ.out], rfl⟩
      have g4i : ((q : Int) == 95) = false := by simp; omega
      go_wp2_with fail
      go_meet
      exact ⟨by simp [rf.strSign, HGL.out, HQ.out, g0, g1, g2, g3, g4], rfl⟩
    · have h0i : ((gn : Int) == 0) = false := by simp; omega
      go_wp2_with fail
      go_meet
      exact ⟨by rw [decide_eq_false (show ¬ (s.got.length = 0 ∧ rf.strSign c = true) from fun h => h0 (by have := HGL.out; omega))], rfl⟩
  case rest =>
  obtain ⟨rfl, rfl⟩ := hcut
  generalize wc = w0 at *
  by_cases hsg : s.got.length = 0 ∧ rf.strSign c = true
  · rw [decide_eq_true hsg]
    have HE : Hid (rf.behind s c = ({ inn := 3, sign := c.toNat }, [])) := Lib.hid (by unfold rf.behind; rw [if_neg h48, if_neg h91, if_pos hsg])
    clear h91 hsg
    have hq := HS.out.a1
    have zd0 : w0.cell? ⟨w.heap.size + 1, 0, none⟩ = some (.int .i64 0) := (cell_of_heap hq).trans rfl
    have ze0 : w0.frozen? ⟨w.heap.size + 1, 0, none⟩ = false := by simp [World.frozen?, hq]
    have zd1 : w0.cell? ⟨w.heap.size + 1, 1, none⟩ = some (.slice none 0 0) := (cell_of_heap hq).trans rfl
    have ze1 : w0.frozen? ⟨w.heap.size + 1, 1, none⟩ = false := by simp [World.frozen?, hq]
    have zd2 : w0.cell? ⟨w.heap.size + 1, 2, none⟩ = some (.slice none 0 0) := (cell_of_heap hq).trans rfl
    have ze2 : w0.frozen? ⟨w.heap.size + 1, 2, none⟩ = false := by simp [World.frozen?, hq]
    have zd3 : w0.cell? ⟨w.heap.size + 1, 3, none⟩ = some (.int .u8 0) := (cell_of_heap hq).trans rfl
    have ze3 : w0.frozen? ⟨w.heap.size + 1, 3, none⟩ = false := by simp [World.frozen?, hq]
    obtain ⟨hg4, hk4⟩ := store4 hq (.int .i64 3) (.slice none 0 0) (.slice none 0 0) (.int .u8 c.toNat)
    have H4 := Lib.hid (And.intro hg4 (HS.out.bel.trans (hk4.below HS.out.bel.size (fun k hk => by omega))))
    clear hg4 hk4 hq
    go_wp2_with fail
    refine bodyPost_ret (results_row_tmp rfl _ _ (w.heap.size + 1) 36 _ (0, 0) _ rfl H4.out.1 Tryd.underlying36 rfl (by kernel_rfl)) rfl ?_
    rw [HE.out]
    exact ⟨_, _, rfl, ⟨_, _, _, _, _, _, rfl, B8.nil _, B8.nil _⟩, ActsAt.nil _ _, H4.out.2⟩
  rw [decide_eq_false hsg]
  by_cases hlast : c.toNat < 127 ∧ s.got.length ≤ 2
  · have hj1 : ((c.toNat : Nat) : Int) < 127 := by omega
    have hj2 : (gn : Int) ≤ 2 := by omega
    have HE : Hid (rf.behind s c = ({}, [{ kind := 3, inter := s.got, final := c.toNat }])) := Lib.hid (by unfold rf.behind; rw [if_neg h48, if_neg h91, if_neg hsg, if_pos hlast])
    clear h91 hsg hlast
    go_upto_region 9 with fail
    have hin := conv_row (HG.out.below HS.out.bel) gn (Nat.le_refl _)
    rw [show s.got.take gn = s.got by rw [← hgl, List.take_length]] at hin
    have hind : (convert 34 9 (.slice go gn gc)).run Tryd.prog w0.drew = .ok (.string ⟨s.got.toArray⟩) w0.drew := by
      have := conv_row (HG.out.below (w' := w0.drew) HS.out.bel.drew) gn (Nat.le_refl _)
      rwa [show s.got.take gn = s.got by rw [← hgl, List.take_length]] at this
    clear hin
    have hq := HS.out.a1
    have zd0 : w0.cell? ⟨w.heap.size + 1, 0, none⟩ = some (.int .i64 0) := (cell_of_heap hq).trans rfl
    have ze0 : w0.frozen? ⟨w.heap.size + 1, 0, none⟩ = false := by simp [World.frozen?, hq]
    have zd1 : w0.cell? ⟨w.heap.size + 1, 1, none⟩ = some (.slice none 0 0) := (cell_of_heap hq).trans rfl
    have ze1 : w0.frozen? ⟨w.heap.size + 1, 1, none⟩ = false := by simp [World.frozen?, hq]
    have zd2 : w0.cell? ⟨w.heap.size + 1, 2, none⟩ = some (.slice none 0 0) := (cell_of_heap hq).trans rfl
    have ze2 : w0.frozen? ⟨w.heap.size + 1, 2, none⟩ = false := by simp [World.frozen?, hq]
    have zd3 : w0.cell? ⟨w.heap.size + 1, 3, none⟩ = some (.int .u8 0) := (cell_of_heap hq).trans rfl
    have ze3 : w0.frozen? ⟨w.heap.size + 1, 3, none⟩ = false := by simp [World.frozen?, hq]
    obtain ⟨hg4, hk4⟩ := store4 hq (.int .i64 0) (.slice none 0 0) (.slice none 0 0) (.int .u8 0)
    have hb4 := HS.out.bel.trans (hk4.below HS.out.bel.size (fun k hk => by omega))
    have hs4 : ((((w0.setCell ⟨w.heap.size + 1, 0, none⟩ (.int .i64 0)).setCell ⟨w.heap.size + 1, 1, none⟩ (.slice none 0 0)).setCell ⟨w.heap.size + 1, 2, none⟩ (.slice none 0 0)).setCell ⟨w.heap.size + 1, 3, none⟩ (.int .u8 0)).heap.size = w0.heap.size := by simp
    have HF : Hid (((((((w0.setCell ⟨w.heap.size + 1, 0, none⟩ (.int .i64 0)).setCell ⟨w.heap.size + 1, 1, none⟩ (.slice none 0 0)).setCell ⟨w.heap.size + 1, 2, none⟩ (.slice none 0 0)).setCell ⟨w.heap.size + 1, 3, none⟩ (.int .u8 0)).alloc (.cells #[.int .i64 3, .int .i32 0, .int .u8 c.toNat, .int .u8 0, .string ⟨s.got.toArray⟩, .slice none 0 0, .string ⟨#[]⟩] 45)).drew).heap[w.heap.size + 1]? = some (.cells #[.int .i64 0, .slice none 0 0, .slice none 0 0, .int .u8 0] 36 (0, 0)) ∧ ActsAt ((((((w0.setCell ⟨w.heap.size + 1, 0, none⟩ (.int .i64 0)).setCell ⟨w.heap.size + 1, 1, none⟩ (.slice none 0 0)).setCell ⟨w.heap.size + 1, 2, none⟩ (.slice none 0 0)).setCell ⟨w.heap.size + 1, 3, none⟩ (.int .u8 0)).alloc (.cells #[.int .i64 3, .int .i32 0, .int .u8 c.toNat, .int .u8 0, .string ⟨s.got.toArray⟩, .slice none 0 0, .string ⟨#[]⟩] 45)).drew) w.heap.size (.slice (some ⟨w0.heap.size, 0, none⟩) 1 1) [{ kind := 3, inter := s.got, final := c.toNat }] ∧ Below w.heap.size w ((((((w0.setCell ⟨w.heap.size + 1, 0, none⟩ (.int .i64 0)).setCell ⟨w.heap.size + 1, 1, none⟩ (.slice none 0 0)).setCell ⟨w.heap.size + 1, 2, none⟩ (.slice none 0 0)).setCell ⟨w.heap.size + 1, 3, none⟩ (.int .u8 0)).alloc (.cells #[.int .i64 3, .int .i32 0, .int .u8 c.toNat, .int .u8 0, .string ⟨s.got.toArray⟩, .slice none 0 0, .string ⟨#[]⟩] 45)).drew)) := by
      generalize ((((w0.setCell ⟨w.heap.size + 1, 0, none⟩ (.int .i64 0)).setCell ⟨w.heap.size + 1, 1, none⟩ (.slice none 0 0)).setCell ⟨w.heap.size + 1, 2, none⟩ (.slice none 0 0)).setCell ⟨w.heap.size + 1, 3, none⟩ (.int .u8 0)) = W4 at *
      have hbd : Below W4.heap.size W4 (W4.alloc (.cells #[.int .i64 3, .int .i32 0, .int .u8 c.toNat, .int .u8 0, .string ⟨s.got.toArray⟩, .slice none 0 0, .string ⟨#[]⟩] 45)).drew := (below_one W4 _).drew
      have hnew := heap_alloc_new W4 (.cells #[.int .i64 3, .int .i32 0, .int .u8 c.toNat, .int .u8 0, .string ⟨s.got.toArray⟩, .slice none 0 0, .string ⟨#[]⟩] 45)
      rw [hs4] at hnew
      refine Lib.hid ⟨(hbd.block _ (by rw [hs4]; exact HS.out.lt)).trans hg4, ?_, hb4.trans (hbd.mono hb4.size)⟩
      exact acts_lit (W := (W4.alloc (.cells #[.int .i64 3, .int .i32 0, .int .u8 c.toNat, .int .u8 0, .string ⟨s.got.toArray⟩, .slice none 0 0, .string ⟨#[]⟩] 45)).drew) (B := w.heap.size) (g := w0.heap.size) { kind := 3, inter := s.got, final := c.toNat } none 0 hnew HS.out.bel.size (act1_none _ _ _ rfl)
    have hind2 := conv_row (HG.out.below hb4.drew) gn (Nat.le_refl _)
    rw [show s.got.take gn = s.got by rw [← hgl, List.take_length]] at hind2
    clear hq hg4 hk4 hb4 hs4
    have hlt := HS.out.lt
    go_region_with fail
    all_goals go_wp2_with fail
    all_goals refine bodyPost_ret (results_row_tmp rfl _ _ (w.heap.size + 1) 36 _ (0, 0) _ rfl HF.out.1 Tryd.underlying36 rfl (by kernel_rfl)) rfl ?_
    all_goals rw [HE.out]
    all_goals exact ⟨_, _, rfl, StW.zero _, HF.out.2.1, HF.out.2.2⟩
  · have HE : Hid (rf.behind s c = ({}, [])) := Lib.hid (by unfold rf.behind; rw [if_neg h48, if_neg h91, if_neg hsg, if_neg hlast])
    clear h91 hsg
    by_cases h127 : c.toNat < 127
    · have hj1 : ((c.toNat : Nat) : Int) < 127 := by omega
      have hj2 : ¬ (gn : Int) ≤ 2 := by omega
      clear hlast
      have hq := HS.out.a1
      have zd0 : w0.cell? ⟨w.heap.size + 1, 0, none⟩ = some (.int .i64 0) := (cell_of_heap hq).trans rfl
      have ze0 : w0.frozen? ⟨w.heap.size + 1, 0, none⟩ = false := by simp [World.frozen?, hq]
      have zd1 : w0.cell? ⟨w.heap.size + 1, 1, none⟩ = some (.slice none 0 0) := (cell_of_heap hq).trans rfl
      have ze1 : w0.frozen? ⟨w.heap.size + 1, 1, none⟩ = false := by simp [World.frozen?, hq]
      have zd2 : w0.cell? ⟨w.heap.size + 1, 2, none⟩ = some (.slice none 0 0) := (cell_of_heap hq).trans rfl
      have ze2 : w0.frozen? ⟨w.heap.size + 1, 2, none⟩ = false := by simp [World.frozen?, hq]
      have zd3 : w0.cell? ⟨w.heap.size + 1, 3, none⟩ = some (.int .u8 0) := (cell_of_heap hq).trans rfl
      have ze3 : w0.frozen? ⟨w.heap.size + 1, 3, none⟩ = false := by simp [World.frozen?, hq]
      obtain ⟨hg4, hk4⟩ := store4 hq (.int .i64 0) (.slice none 0 0) (.slice none 0 0) (.int .u8 0)
      have H4 := Lib.hid (And.intro hg4 (HS.out.bel.trans (hk4.below HS.out.bel.size (fun k hk => by omega))))
      clear hg4 hk4 hq
      go_wp2_with fail
      refine bodyPost_ret (results_row_tmp rfl _ _ (w.heap.size + 1) 36 _ (0, 0) _ rfl H4.out.1 Tryd.underlying36 rfl (by kernel_rfl)) rfl ?_
      rw [HE.out]
      exact ⟨_, _, rfl, ⟨_, _, _, _, _, _, rfl, B8.nil _, B8.nil _⟩, ActsAt.nil _ _, H4.out.2⟩
    · have hj1 : ¬ ((c.toNat : Nat) : Int) < 127 := by omega
      clear hlast
      have hq := HS.out.a1
      have zd0 : w0.cell? ⟨w.heap.size + 1, 0, none⟩ = some (.int .i64 0) := (cell_of_heap hq).trans rfl
      have ze0 : w0.frozen? ⟨w.heap.size + 1, 0, none⟩ = false := by simp [World.frozen?, hq]
      have zd1 : w0.cell? ⟨w.heap.size + 1, 1, none⟩ = some (.slice none 0 0) := (cell_of_heap hq).trans rfl
      have ze1 : w0.frozen? ⟨w.heap.size + 1, 1, none⟩ = false := by simp [World.frozen?, hq]
      have zd2 : w0.cell? ⟨w.heap.size + 1, 2, none⟩ = some (.slice none 0 0) := (cell_of_heap hq).trans rfl
      have ze2 : w0.frozen? ⟨w.heap.size + 1, 2, none⟩ = false := by simp [World.frozen?, hq]
      have zd3 : w0.cell? ⟨w.heap.size + 1, 3, none⟩ = some (.int .u8 0) := (cell_of_heap hq).trans rfl
      have ze3 : w0.frozen? ⟨w.heap.size + 1, 3, none⟩ = false := by simp [World.frozen?, hq]
      obtain ⟨hg4, hk4⟩ := store4 hq (.int .i64 0) (.slice none 0 0) (.slice none 0 0) (.int .u8 0)
      have H4 := Lib.hid (And.intro hg4 (HS.out.bel.trans (hk4.below HS.out.bel.size (fun k hk => by omega))))
      clear hg4 hk4 hq
      go_wp2_with fail
      refine bodyPost_ret (results_row_tmp rfl _ _ (w.heap.size + 1) 36 _ (0, 0) _ rfl H4.out.1 Tryd.underlying36 rfl (by kernel_rfl)) rfl ?_
      rw [HE.out]
      exact ⟨_, _, rfl, ⟨_, _, _, _, _, _, rfl, B8.nil _, B8.nil _⟩, ActsAt.nil _ _, H4.out.2⟩
end Go.Proofs.YtgkodjkhhmcnnaaDoor
