/- esc, str, csi: the acts that a sequence makes. slices.Clone of numbers. csi: the act of a control sequence. inString. -/
import Derived.Test.YtgkodjkhhmcnnaaDoorEscCmd
import Derived.Lib.SliceRun
namespace Go.Proofs.YtgkodjkhhmcnnaaDoor
open Go.RowKit

set_option maxRecDepth 100000 in
set_option maxHeartbeats 1600000 in
theorem mkEsc_any (p : Nat) (s : es.St) (cur : Array Value) (b : UInt8) (w : World) (h : PsAt w p s cur) :
    Calls Tryd.prog 59 #[.pointer (some ⟨p, 5, none⟩), .int .u8 b.toNat] w fun e w' => e = .returned (actV (es.esc s b) none 0) ∧ Below w.heap.size w w' := by
  have c8 : w.cell? ⟨p, 8, none⟩ = some (.string ⟨s.inter.toArray⟩) := (h.c 8).trans h.is.inter
  have hp := h.lt
  clear h
  go_enter Tryd.func59, Tryd.ntmps59
  go_wp2_with fail
  refine bodyPost_ret (results_cell_row rfl _ _ w.heap.size 45 _ (0, 0) _ rfl (heap_alloc_new _ _) Tryd.underlying45 rfl (by kernel_rfl)) rfl ?_
  exact ⟨rfl, (Below.refl _ _).alloc (Nat.le_refl _) _⟩
theorem Bts.of_cells {w : World} {p off : Nat} {l : List UInt8} {cap : Nat} (hc : ∀ k, k < l.length → w.cell? ⟨p, off + k, none⟩ = some (.int .u8 (gl.b l k))) :
    (convert 34 9 (.slice (some ⟨p, off, none⟩) l.length cap)).run Tryd.prog w = .ok (.string ⟨l.toArray⟩) w :=
  run_convert_bytes_back (P := Tryd.prog) w 34 9 5 ⟨p, off, none⟩ cap l Tryd.underlying34 Tryd.underlying5 Tryd.underlying9 (fun j hj => by
    rw [show (⟨p, off, none⟩ : Addr).add j = ⟨p, off + j, none⟩ by unfold Addr.add; split <;> simp_all, hc j hj]
    simp [gl.b, List.getD, hj])
set_option maxRecDepth 100000 in
set_option maxHeartbeats 1600000 in
theorem mkStr_any (p : Nat) (s : es.St) (cur : Array Value) (w : World) (h : PsAt w p s cur) :
    Calls Tryd.prog 62 #[.pointer (some ⟨p, 5, none⟩)] w fun e w' => e = .returned (actV (es.str s) none 0) ∧ Below w.heap.size w w' := by
  have c7 : w.cell? ⟨p, 7, none⟩ = some (.int .u8 s.final) := (h.c 7).trans h.is.final
  have c9 : w.cell? ⟨p, 283, none⟩ = some (.int .i64 (s.text.length : Nat)) := (h.c 283).trans h.is.len
  have hp := h.lt
  have hl := h.is.txtl
  have hconv := fun cap X (hb : Below w.heap.size w X) => Bts.of_cells (w := X) (p := p) (off := 27) (l := s.text) (cap := cap) (fun k hk => by rw [hb.cell (p := ⟨p, 27 + k, none⟩) hp]; exact (h.c _).trans (h.is.txt k hk))
  have HC := Lib.hid hconv
  have hb1 : Below w.heap.size w (w.alloc (.cells #[.int .i64 0, .int .i32 0, .int .u8 0, .int .u8 0, .string ⟨#[]⟩, .slice none 0 0, .string ⟨#[]⟩] 45)).drew := ((Below.refl _ _).alloc (Nat.le_refl _) _).drew
  have kc := HC.out 256 _ hb1
  have hl0 : (0 : Int) ≤ (s.text.length : Int) := by omega
  have hl1 : (s.text.length : Int) ≤ 256 := by omega
  clear h hconv hb1
  go_enter Tryd.func62, Tryd.ntmps62
  go_wp2_with fail
  go_region_with fail
  all_goals go_wp2_with fail
  all_goals refine bodyPost_ret (results_cell_row rfl _ _ w.heap.size 45 _ (0, 0) _ rfl (heap_alloc_new w _) Tryd.underlying45 rfl (by kernel_rfl)) rfl ?_
  all_goals exact ⟨rfl, ((Below.refl _ _).alloc (Nat.le_refl _) _).drew⟩
end Go.Proofs.YtgkodjkhhmcnnaaDoor
namespace Go.Proofs.YtgkodjkhhmcnnaaDoor
open Go.RowKit

theorem infoI : (Tryd.prog.info? 3).map (fun i => (i.zero, i.size, i.bytes)) = some (some (Value.int .i64 0), 1, 8) := by kernel_rfl
theorem own_empty (w : World) : (w.alloc (.cells #[] 3)).ownsRow w.heap.size 3 1 (.slice (some ⟨w.heap.size, 0, none⟩) 0 0) 0 (cs .i64 []) :=
  ⟨rfl, .inr ⟨w.heap.size, 0, #[], rfl, Nat.le_refl _, heap_alloc_new _ _, Nat.le_refl _, by unfold maxLen; omega, rfl, rfl⟩⟩
set_option maxRecDepth 100000 in
set_option maxHeartbeats 1600000 in
theorem clone_any (p off k cap : Nat) (zs : List Int) (w : World) (hz : Nums .i64 w (some ⟨p, off, none⟩) k cap zs) (hk : k ≤ 17) :
    Calls Tryd.prog 75 #[.slice (some ⟨p, off, none⟩) k cap] w fun e w' => ∃ o c, e = .returned (.slice o k c) ∧ Own w' w.heap.size 3 .i64 o k c zs ∧ Below w.heap.size w w' := by
  obtain ⟨i0, hi, hz0, hz1, hz2⟩ := info_parts infoI
  have hb1 : Below w.heap.size w (w.alloc (.cells #[] 3)) := (Below.refl _ _).alloc (Nat.le_refl _) _
  have HN := Lib.hid (hz.below hb1)
  have HO := Lib.hid (own_empty w)
  have HB := Lib.hid hb1
  have hq := Lib.run_eql_slice_nil (P := Tryd.prog) w 43 3 (some ⟨p, off, none⟩) k cap 0 0 Tryd.underlying43
  clear hz hb1
  go_enter Tryd.func75, Tryd.ntmps75
  go_wp2_with (at_builtin; refine wpList_append_nums (K := .i64) rfl _ _ 43 rfl w.heap.size 3 i0 (Value.int .i64 0) 8 Tryd.underlying43 hi hz0 hz1 hz2 (by decide) rfl (.slice (some ⟨w.heap.size, 0, none⟩) 0 0) 0 [] rfl HO.out (some ⟨p, off, none⟩) k cap zs rfl HN.out (by omega) (by simp) (fun v' w' r1 r2 r3 => ?_); have HR := Lib.hid (And.intro r1 (HB.out.grown r2 (by simp) (fun g hg => by simp [Value.ownBlock] at hg; omega))); clear r1 r2 r3)
  go_ret
  obtain ⟨o, c, rfl, hO⟩ := Own.of (K := .i64) (show _ from HR.out.1)
  rw [Nat.zero_add] at hO ⊢
  exact ⟨o, c, rfl, hO, HR.out.2⟩
end Go.Proofs.YtgkodjkhhmcnnaaDoor
namespace Go.Proofs.YtgkodjkhhmcnnaaDoor
open Go.RowKit

theorem mins16 (n : Nat) : min (n : Int) 16 = ((min n 16 : Nat) : Int) := by omega
theorem PsAt.params {w : World} {p : Nat} {s : es.St} {cur : Array Value} (h : PsAt w p s cur) : Nums .i64 w (some ⟨p, 9, none⟩) (min s.params.length 16) 17 (s.params.take 16) := by
  refine ⟨by rw [List.length_take, Nat.min_comm], by omega, by unfold maxLen; omega, .inr ⟨p, 9, rfl, h.lt, fun k hk => ?_⟩⟩
  rw [h.c (9 + k), h.is.par k (by omega), getD_take _ _ _ (by omega)]
theorem store7 {w1 : World} {g : Nat} {z0 z1 z2 z3 z4 z5 z6 : Value} {T : TypeId} (hg : w1.heap[g]? = some (.cells #[z0, z1, z2, z3, z4, z5, z6] T (0, 0))) (a0 a1 a2 a3 a4 a5 a6 : Value) :
    (((((((w1.setCell ⟨g, 0, none⟩ a0).setCell ⟨g, 1, none⟩ a1).setCell ⟨g, 2, none⟩ a2).setCell ⟨g, 3, none⟩ a3).setCell ⟨g, 4, none⟩ a4).setCell ⟨g, 5, none⟩ a5).setCell ⟨g, 6, none⟩ a6).heap[g]? = some (.cells #[a0, a1, a2, a3, a4, a5, a6] T (0, 0)) ∧ Kept w1 (((((((w1.setCell ⟨g, 0, none⟩ a0).setCell ⟨g, 1, none⟩ a1).setCell ⟨g, 2, none⟩ a2).setCell ⟨g, 3, none⟩ a3).setCell ⟨g, 4, none⟩ a4).setCell ⟨g, 5, none⟩ a5).setCell ⟨g, 6, none⟩ a6) (· = g) := by
  refine ⟨?_, ((((((((Kept.refl w1 (· = g)).setCell (p := ⟨g, 0, none⟩) (fun _ => rfl) a0).setCell (p := ⟨g, 1, none⟩) (fun _ => rfl) a1).setCell (p := ⟨g, 2, none⟩) (fun _ => rfl) a2).setCell (p := ⟨g, 3, none⟩) (fun _ => rfl) a3).setCell (p := ⟨g, 4, none⟩) (fun _ => rfl) a4).setCell (p := ⟨g, 5, none⟩) (fun _ => rfl) a5).setCell (p := ⟨g, 6, none⟩) (fun _ => rfl) a6)⟩
  have h0 := heap_setCell_same w1 g 0 _ T a0 hg
  simp only [List.setIfInBounds_toArray, List.set_cons_zero] at h0
  have h1 := heap_setCell_same (w1.setCell ⟨g, 0, none⟩ a0) g 1 _ T a1 h0
  simp only [List.setIfInBounds_toArray, List.set_cons_zero, List.set_cons_succ] at h1
  have h2 := heap_setCell_same ((w1.setCell ⟨g, 0, none⟩ a0).setCell ⟨g, 1, none⟩ a1) g 2 _ T a2 h1
  simp only [List.setIfInBounds_toArray, List.set_cons_zero, List.set_cons_succ] at h2
  have h3 := heap_setCell_same (((w1.setCell ⟨g, 0, none⟩ a0).setCell ⟨g, 1, none⟩ a1).setCell ⟨g, 2, none⟩ a2) g 3 _ T a3 h2
  simp only [List.setIfInBounds_toArray, List.set_cons_zero, List.set_cons_succ] at h3
  have h4 := heap_setCell_same ((((w1.setCell ⟨g, 0, none⟩ a0).setCell ⟨g, 1, none⟩ a1).setCell ⟨g, 2, none⟩ a2).setCell ⟨g, 3, none⟩ a3) g 4 _ T a4 h3
  simp only [List.setIfInBounds_toArray, List.set_cons_zero, List.set_cons_succ] at h4
  have h5 := heap_setCell_same (((((w1.setCell ⟨g, 0, none⟩ a0).setCell ⟨g, 1, none⟩ a1).setCell ⟨g, 2, none⟩ a2).setCell ⟨g, 3, none⟩ a3).setCell ⟨g, 4, none⟩ a4) g 5 _ T a5 h4
  simp only [List.setIfInBounds_toArray, List.set_cons_zero, List.set_cons_succ] at h5
  have h6 := heap_setCell_same ((((((w1.setCell ⟨g, 0, none⟩ a0).setCell ⟨g, 1, none⟩ a1).setCell ⟨g, 2, none⟩ a2).setCell ⟨g, 3, none⟩ a3).setCell ⟨g, 4, none⟩ a4).setCell ⟨g, 5, none⟩ a5) g 6 _ T a6 h5
  simp only [List.setIfInBounds_toArray, List.set_cons_zero, List.set_cons_succ] at h6
  exact h6
theorem act1_own {w : World} {B B' n : Nat} {a : es.Act} {o : Option Addr} {cap : Nat} (h : Own w B' 3 .i64 o n cap a.params) (hB : B ≤ B') (hn : a.params.length = n) : Act1 w B a o cap := by
  subst hn
  refine ⟨h.nums, fun h0 d hd => ?_⟩
  rcases h.row.2 with ⟨e, h1⟩ | ⟨g, c, cur, e, h1, h2, _⟩
  · exact absurd h1 h0
  · cases e
    cases hd
    exact ⟨Nat.le_trans hB h1, _, h2⟩
theorem row_drew {w : World} {g : Nat} {x : Option Obj} (h : w.heap[g]? = x) : w.drew.heap[g]? = x := h
theorem own_drew {w : World} {B : Nat} {e : TypeId} {K : IntKind} {o : Option Addr} {n cap : Nat} {xs : List Int} (h : Own w B e K o n cap xs) : Own w.drew B e K o n cap xs := ⟨h.row⟩
set_option maxRecDepth 100000 in
set_option maxHeartbeats 1600000 in
theorem mkCsi_any (p : Nat) (s : es.St) (cur : Array Value) (b : UInt8) (w : World) (h : PsAt w p s cur) :
    Calls Tryd.prog 61 #[.pointer (some ⟨p, 5, none⟩), .int .u8 b.toNat] w fun e w' => ∃ o cap, e = .returned (actV (es.csi s b) o cap) ∧ Act1 w' w.heap.size (es.csi s b) o cap ∧ Below w.heap.size w w' := by
  have c26 : w.cell? ⟨p, 26, none⟩ = some (.int .i64 (s.params.length : Nat)) := (h.c 26).trans h.is.cnt
  have hp := h.lt
  have hb1 : Below w.heap.size w (w.alloc (.cells #[.int .i64 0, .int .i32 0, .int .u8 0, .int .u8 0, .string ⟨#[]⟩, .slice none 0 0, .string ⟨#[]⟩] 45)).drew := ((Below.refl _ _).alloc (Nat.le_refl _) _).drew
  have hn := (h.below hb1 hp).params
  have hm := mins16 s.params.length
  have hm16 : min s.params.length 16 ≤ 16 := by omega
  have hlen : (es.csi s b).params.length = min s.params.length 16 := by show (s.params.take 16).length = _; rw [List.length_take, Nat.min_comm]
  generalize min s.params.length 16 = m at *
  have HN := Lib.hid hn
  have HP := Lib.hid (h.below hb1 hp)
  have HB := Lib.hid hb1
  have hmi : (m : Int) ≤ 17 := by omega
  have hm0 : (0 : Int) ≤ (m : Int) := by omega
  clear h hn hb1
  go_enter Tryd.func61, Tryd.ntmps61
  go_wp2_with fail
  go_region_with (go_at_call 75; refine (clone_any p 9 m 17 _ _ HN.out (by omega)).mono ?_; rintro e w1 ⟨o, c, rfl, hO, hB⟩)
  have hP1 := HP.out.below hB (show p < _ by simp; omega)
  have c6 : w1.cell? ⟨p, 6, none⟩ = some (.int .u8 s.priv) := (hP1.c 6).trans hP1.is.priv
  have c8 : w1.cell? ⟨p, 8, none⟩ = some (.string ⟨s.inter.toArray⟩) := (hP1.c 8).trans hP1.is.inter
  have hg : w1.heap[w.heap.size]? = some (.cells #[.int .i64 0, .int .i32 0, .int .u8 0, .int .u8 0, .string ⟨#[]⟩, .slice none 0 0, .string ⟨#[]⟩] 45 (0, 0)) := (hB.block _ (by simp)).trans (heap_alloc_new w _)
  have hpne : p ≠ w.heap.size := by omega
  have d0 : w1.cell? ⟨w.heap.size, 0, none⟩ = some (.int .i64 0) := (cell_of_heap hg).trans rfl
  have e0 : w1.frozen? ⟨w.heap.size, 0, none⟩ = false := by simp [World.frozen?, hg]
  have d1 : w1.cell? ⟨w.heap.size, 1, none⟩ = some (.int .i32 0) := (cell_of_heap hg).trans rfl
  have e1 : w1.frozen? ⟨w.heap.size, 1, none⟩ = false := by simp [World.frozen?, hg]
  have d2 : w1.cell? ⟨w.heap.size, 2, none⟩ = some (.int .u8 0) := (cell_of_heap hg).trans rfl
  have e2 : w1.frozen? ⟨w.heap.size, 2, none⟩ = false := by simp [World.frozen?, hg]
  have d3 : w1.cell? ⟨w.heap.size, 3, none⟩ = some (.int .u8 0) := (cell_of_heap hg).trans rfl
  have e3 : w1.frozen? ⟨w.heap.size, 3, none⟩ = false := by simp [World.frozen?, hg]
  have d4 : w1.cell? ⟨w.heap.size, 4, none⟩ = some (.string ⟨#[]⟩) := (cell_of_heap hg).trans rfl
  have e4 : w1.frozen? ⟨w.heap.size, 4, none⟩ = false := by simp [World.frozen?, hg]
  have d5 : w1.cell? ⟨w.heap.size, 5, none⟩ = some (.slice none 0 0) := (cell_of_heap hg).trans rfl
  have e5 : w1.frozen? ⟨w.heap.size, 5, none⟩ = false := by simp [World.frozen?, hg]
  have d6 : w1.cell? ⟨w.heap.size, 6, none⟩ = some (.string ⟨#[]⟩) := (cell_of_heap hg).trans rfl
  have e6 : w1.frozen? ⟨w.heap.size, 6, none⟩ = false := by simp [World.frozen?, hg]
  have HO := Lib.hid hO
  have HB1 := Lib.hid hB
  have HG := Lib.hid hg
  clear hO hB hP1 hg c26
  obtain ⟨hg7, hk7⟩ := store7 HG.out (.int .i64 4) (.int .i32 0) (.int .u8 b.toNat) (.int .u8 s.priv) (.string ⟨s.inter.toArray⟩) (.slice o m c) (.string ⟨#[]⟩)
  have hO7 := HO.out.kept hk7 (fun a ha e => by have := (HO.out.lt a ha).1; simp at this; omega)
  have hB7 : Below w.heap.size w (((((((w1.setCell ⟨w.heap.size, 0, none⟩ (.int .i64 4)).setCell ⟨w.heap.size, 1, none⟩ (.int .i32 0)).setCell ⟨w.heap.size, 2, none⟩ (.int .u8 b.toNat)).setCell ⟨w.heap.size, 3, none⟩ (.int .u8 s.priv)).setCell ⟨w.heap.size, 4, none⟩ (.string ⟨s.inter.toArray⟩)).setCell ⟨w.heap.size, 5, none⟩ (.slice o m c)).setCell ⟨w.heap.size, 6, none⟩ (.string ⟨#[]⟩)) := HB.out.trans ((HB1.out.mono (by simp)).trans (hk7.below (Nat.le_trans (by simp) HB1.out.size) (fun k hk => by omega)))
  have H7 := Lib.hid (And.intro hg7 (And.intro hO7 hB7))
  clear hk7 hg7 hO7 hB7
  go_wp2_with fail
  go_region_with fail
  all_goals go_wp2_with fail
  all_goals
    refine bodyPost_ret (results_cell_row rfl _ _ w.heap.size 45 _ (0, 0) _ rfl (row_drew H7.out.1) Tryd.underlying45 rfl (by kernel_rfl)) rfl ?_
    refine ⟨o, c, ?_, act1_own (own_drew H7.out.2.1) (by simp) hlen, H7.out.2.2.drew⟩
    rw [← hlen]
    rfl
end Go.Proofs.YtgkodjkhhmcnnaaDoor
namespace Go.Proofs.YtgkodjkhhmcnnaaDoor
open Go.RowKit

set_option maxRecDepth 100000 in
set_option maxHeartbeats 1600000 in
theorem inString_any (p B : Nat) (s : es.St) (cur : Array Value) (V : Value) (l : List es.Act) (b : UInt8) (w : World) (h : PsAt w p s cur) (ha : ActsAt w B V l) (hl : l.length ≤ 1099511627776) (hpB : p < B) (hBw : B ≤ w.heap.size) :
    Calls Tryd.prog 32 #[.pointer (some ⟨p, 0, none⟩), V, .int .u8 b.toNat] w fun e w' => ∃ V', e = .returned V' ∧ ActsAt w' B V' (l ++ (es.inString s b).2) ∧ (∃ cur', PsAt w' p (es.inString s b).1 cur') ∧ Kept w w' (Fr p B) := by
  have hz := run_zero p s cur w h
  have c0 : w.cell? ⟨p, 0, none⟩ = some (.int .i64 s.state) := (h.c 0).trans h.is.st
  have f0 := h.f 0
  have hpw := h.lt
  have HA := Lib.hid ha
  have HH := Lib.hid h
  have HZ := Lib.hid (row_at h zero_is)
  have HKR := Lib.hid (fun c => (Kept.refl w (· = p)).setRow (fun _ => rfl) c)
  have HAK := Lib.hid (fun w' (hk : Kept w w' (· = p)) => ha.kept hk (fun k hk e => by omega))
  clear h ha
  by_cases h7 : b.toNat = 7
  · have e : es.inString s b = es.say s (es.str s) := by unfold es.inString; rw [if_pos h7]
    rw [e, show (b.toNat : Int) = _ from congrArg Nat.cast h7]
    go_enter Tryd.func32, Tryd.ntmps32
    go_wp2_with fail
    refine (mkStr_any p s cur w HH.out).mono ?_
    rintro e w1 ⟨rfl, hb⟩
    have HB := Lib.hid hb
    have HB' := Lib.hid (hb.mono hBw)
    clear hb
    go_wp2_with fail
    refine (say_any p B s cur V l (es.str s) none 0 w1 (HH.out.below HB.out hpw) (HA.out.below HB.out) hl hpB (Nat.le_trans hBw HB.out.size) (act1_none w1 B (es.str s) rfl)).mono ?_
    rintro e w2 ⟨V', rfl, r1, r2, r3⟩
    go_wp2_with fail
    go_ret
    exact ⟨_, rfl, r1, r2, (Kept.fr_below HB'.out).fr_trans r3⟩
  by_cases h27 : b.toNat = 27
  · have e : es.inString s b = ({ s with state := 4 }, []) := by unfold es.inString; rw [if_neg h7, if_pos h27]
    rw [e, List.append_nil, show (b.toNat : Int) = _ from congrArg Nat.cast h27]
    have hk := (Kept.refl w (· = p)).setCell (p := ⟨p, 0, none⟩) (fun _ => rfl) (.int .i64 4)
    have HS := Lib.hid (And.intro (HH.out.set 0 (.int .i64 4) (HH.out.is.setState 4)) hk)
    clear hk
    go_enter Tryd.func32, Tryd.ntmps32
    go_wp2_with fail
    go_ret
    exact ⟨_, rfl, HAK.out _ HS.out.2, ⟨_, HS.out.1⟩, HS.out.2.fr⟩
  by_cases h24 : b.toNat = 24 ∨ b.toNat = 26
  · have e : es.inString s b = ({}, []) := by unfold es.inString; rw [if_neg h7, if_neg h27, if_pos h24]
    rw [e, List.append_nil]
    rcases h24 with h | h
    all_goals
      rw [show (b.toNat : Int) = _ from congrArg Nat.cast h]
      go_enter Tryd.func32, Tryd.ntmps32
      go_wp2_with fail
      go_ret
      exact ⟨_, rfl, HAK.out _ (HKR.out _), ⟨_, HZ.out⟩, (HKR.out _).fr⟩
  have b1 : ((b.toNat : Int) == 7) = false := by simp; omega
  have b2 : ((b.toNat : Int) == 27) = false := by simp; omega
  have b3 : ((b.toNat : Int) == 24) = false := by simp; omega
  have b4 : ((b.toNat : Int) == 26) = false := by simp; omega
  by_cases h32 : 32 ≤ b.toNat
  · have e : es.inString s b = (es.addText s b, []) := by unfold es.inString; rw [if_neg h7, if_neg h27, if_neg h24, if_pos h32]
    rw [e, List.append_nil]
    have b5 : (32 : Int) ≤ (b.toNat : Int) := by omega
    clear hz
    go_enter Tryd.func32, Tryd.ntmps32
    go_wp2_with fail
    refine (addText_any p s cur b w HH.out).mono ?_
    rintro e w1 ⟨rfl, r1, r2⟩
    go_wp2_with fail
    go_ret
    exact ⟨_, rfl, HAK.out _ r2, r1, r2.fr⟩
  · have e : es.inString s b = (s, []) := by unfold es.inString; rw [if_neg h7, if_neg h27, if_neg h24, if_neg h32]
    rw [e, List.append_nil]
    have b5 : decide ((32 : Int) ≤ (b.toNat : Int)) = false := decide_eq_false (by omega)
    clear hz
    go_enter Tryd.func32, Tryd.ntmps32
    go_wp2_with fail
    go_ret
    exact ⟨_, rfl, HA.out, ⟨_, HH.out⟩, Kept.refl _ _⟩
end Go.Proofs.YtgkodjkhhmcnnaaDoor
