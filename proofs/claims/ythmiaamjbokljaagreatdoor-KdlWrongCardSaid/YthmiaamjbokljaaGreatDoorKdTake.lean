/- The parser's value, closes, take. -/
import Derived.Test.YthmiaamjbokljaaGreatDoorKdPeek
namespace Go.Proofs.YthmiaamjbokljaaGreatDoor
open Go.RowKit
abbrev valV (v : kd.Val) : Value := .agg #[.int .i64 v.kind, str v.text, .int .i64 v.int, .bool v.flag]
theorem box_val (t : tk.Tok) (a b c d : Value) (w : World) : ((w.alloc (.cells #[.int .i64 t.kind, str t.text, .int .i64 t.int, .int .i64 t.at_] 82)).alloc (.cells #[a, b, c, d] 44)).heap[w.heap.size + 1]? = some (.cells #[a, b, c, d] 44 (0, 0)) ∧ Below w.heap.size w ((w.alloc (.cells #[.int .i64 t.kind, str t.text, .int .i64 t.int, .int .i64 t.at_] 82)).alloc (.cells #[a, b, c, d] 44)) := by
  constructor
  · have := heap_alloc_new (w.alloc (.cells #[.int .i64 t.kind, str t.text, .int .i64 t.int, .int .i64 t.at_] 82)) (.cells #[a, b, c, d] 44)
    rwa [World.size_alloc] at this
  · exact ((Below.refl _ _).alloc (Nat.le_refl _) _).alloc (by simp) _
set_option maxRecDepth 100000 in
set_option maxHeartbeats 800000 in
theorem kd.value_any (t : tk.Tok) (w : World) :
    Calls Tryz.prog 90 #[tokV t] w fun ev w' => ev = .returned (valV (kd.value t)) ∧ Below w.heap.size w w' := by
  obtain ⟨k, x, i, y⟩ := t
  have HB := Lib.hid (fun a b c d => box_val ⟨k, x, i, y⟩ a b c d w)
  by_cases h3 : k = 3
  · subst h3
    show Calls Tryz.prog 90 #[tokV ⟨3, x, i, y⟩] w fun ev w' => ev = .returned (.agg #[.int .i64 2, str [], .int .i64 i, .bool false]) ∧ Below w.heap.size w w'
    go_enter Tryz.func90, Tryz.ntmps90
    go_wp2_with fail
    refine bodyPost_ret (results_cell_row rfl _ _ (w.heap.size + 1) 44 _ (0, 0) _ rfl (HB.out _ _ _ _).1 Tryz.underlying44 rfl (by kernel_rfl)) rfl ?_
    exact ⟨rfl, (HB.out _ _ _ _).2⟩
  have h3i : ((k : Int) == 3) = false := by simp; omega
  by_cases h2 : k = 2
  · subst h2
    show Calls Tryz.prog 90 #[tokV ⟨2, x, i, y⟩] w fun ev w' => ev = .returned (.agg #[.int .i64 1, str x, .int .i64 0, .bool false]) ∧ Below w.heap.size w w'
    go_enter Tryz.func90, Tryz.ntmps90
    go_wp2_with fail
    refine bodyPost_ret (results_cell_row rfl _ _ (w.heap.size + 1) 44 _ (0, 0) _ rfl (HB.out _ _ _ _).1 Tryz.underlying44 rfl (by kernel_rfl)) rfl ?_
    exact ⟨rfl, (HB.out _ _ _ _).2⟩
  have h2i : ((k : Int) == 2) = false := by simp; omega
  have hv : kd.value ⟨k, x, i, y⟩ = if x = kd.tTrue ∨ x = kd.tFalse then { kind := 3, flag := decide (x = kd.tTrue) } else if x = kd.tNull then { kind := 4 } else { kind := 1, text := x } := by
    unfold kd.value
    rw [if_neg h3, if_neg h2]
  by_cases ht : x = kd.tTrue
  · have e : kd.value ⟨k, x, i, y⟩ = { kind := 3, flag := true } := by rw [hv, if_pos (.inl ht), ht]; rfl
    rw [e]
    subst ht
    clear hv e h3 h2
    go_enter Tryz.func90, Tryz.ntmps90
    go_wp2_with fail
    refine bodyPost_ret (results_cell_row rfl _ _ (w.heap.size + 1) 44 _ (0, 0) _ rfl (HB.out _ _ _ _).1 Tryz.underlying44 rfl (by kernel_rfl)) rfl ?_
    exact ⟨rfl, (HB.out _ _ _ _).2⟩
  by_cases hf : x = kd.tFalse
  · have e : kd.value ⟨k, x, i, y⟩ = { kind := 3, flag := false } := by rw [hv, if_pos (.inr hf), hf]; rfl
    rw [e]
    subst hf
    clear hv e h3 h2
    go_enter Tryz.func90, Tryz.ntmps90
    go_wp2_with fail
    refine bodyPost_ret (results_cell_row rfl _ _ (w.heap.size + 1) 44 _ (0, 0) _ rfl (HB.out _ _ _ _).1 Tryz.underlying44 rfl (by kernel_rfl)) rfl ?_
    exact ⟨rfl, (HB.out _ _ _ _).2⟩
  by_cases hn : x = kd.tNull
  · have e : kd.value ⟨k, x, i, y⟩ = { kind := 4 } := by rw [hv, if_neg (fun h => h.elim ht hf), if_pos hn]
    rw [e]
    subst hn
    clear hv e h3 h2
    go_enter Tryz.func90, Tryz.ntmps90
    go_wp2_with fail
    refine bodyPost_ret (results_cell_row rfl _ _ (w.heap.size + 1) 44 _ (0, 0) _ rfl (HB.out _ _ _ _).1 Tryz.underlying44 rfl (by kernel_rfl)) rfl ?_
    exact ⟨rfl, (HB.out _ _ _ _).2⟩
  have e : kd.value ⟨k, x, i, y⟩ = { kind := 1, text := x } := by rw [hv, if_neg (fun h => h.elim ht hf), if_neg hn]
  rw [e]
  have b1 : (x == [116, 114, 117, 101]) = false := by simpa [kd.tTrue] using ht
  have b2 : (x == [102, 97, 108, 115, 101]) = false := by simpa [kd.tFalse] using hf
  have b3 : (x == [110, 117, 108, 108]) = false := by simpa [kd.tNull] using hn
  clear hv e h3 h2 ht hf hn
  go_enter Tryz.func90, Tryz.ntmps90
  go_wp2_with fail
  refine bodyPost_ret (results_cell_row rfl _ _ (w.heap.size + 1) 44 _ (0, 0) _ rfl (HB.out _ _ _ _).1 Tryz.underlying44 rfl (by kernel_rfl)) rfl ?_
  exact ⟨rfl, (HB.out _ _ _ _).2⟩
theorem run_tok_field (t : tk.Tok) (w : World) : (Instr.field 82 (tokV t) 0).run Tryz.prog w = .ok (.int .i64 t.kind) w := by
  have a3 := Tryz.isAgg3
  unfold Instr.field asAgg
  go_simp
set_option maxRecDepth 100000 in
set_option maxHeartbeats 800000 in
theorem closes_any (p e : Nat) (s : kd.Ps) (o : Option Addr) (cap : Nat) (d : Nat) (w : World) (h : PrAt w p e s o cap) :
    Calls Tryz.prog 37 #[.pointer (some ⟨p, 0, none⟩), .int .i64 d] w fun ev w' => ev = .returned (.bool (kd.closes e d s)) ∧ Below w.heap.size w w' := by
  have HP := Lib.hid (peek_any p e s o cap w h)
  have HS := Lib.hid (fun W => kd.isSign_any (kd.peek e s) 125 W)
  have HR : Hid (kd.closes e d s = if d = 0 then decide ((kd.peek e s).kind = 0) else kd.isSign (kd.peek e s) 125) := Lib.hid rfl
  generalize kd.peek e s = t at *
  generalize kd.closes e d s = R at *
  clear h
  by_cases hd : d = 0
  · subst hd
    go_enter Tryz.func37, Tryz.ntmps37
    go_wp2_with fail
    refine HP.out.mono ?_
    rintro ev w1 ⟨rfl, hb⟩
    have HB := Lib.hid hb
    clear hb
    have hfl := fun wx => run_tok_field t wx
    go_wp2_with fail
    go_ret
    refine ⟨ret_bool ?_, HB.out⟩
    rw [HR.out, if_pos trivial, Bool.eq_iff_iff]
    simp
  · have hdi : ((d : Int) == 0) = false := by simp; omega
    have HR2 : Hid (R = kd.isSign t 125) := Lib.hid (by rw [HR.out, if_neg hd])
    clear hd HR
    go_enter Tryz.func37, Tryz.ntmps37
    go_wp2_with fail
    refine HP.out.mono ?_
    rintro ev w1 ⟨rfl, hb⟩
    have HB := Lib.hid hb
    clear hb
    go_wp2_with fail
    refine (HS.out _).mono ?_
    rintro ev w2 ⟨rfl, hb2⟩
    have HB2 := Lib.hid (HB.out.trans (hb2.mono HB.out.size))
    clear hb2
    go_wp2_with fail
    go_ret
    exact ⟨ret_bool HR2.out.symm, HB2.out⟩
theorem store4 {w : World} {b : Nat} {x0 x1 x2 x3 : Value} {T : TypeId} (h : w.heap[b]? = some (.cells #[x0, x1, x2, x3] T (0, 0))) (a0 a1 a2 a3 : Value) :
    ((((w.setCell ⟨b, 0, none⟩ a0).setCell ⟨b, 1, none⟩ a1).setCell ⟨b, 2, none⟩ a2).setCell ⟨b, 3, none⟩ a3).heap[b]? = some (.cells #[a0, a1, a2, a3] T (0, 0)) := by
  have h0 := heap_setCell_same w b 0 _ _ a0 h
  have h1 := heap_setCell_same _ b 1 _ _ a1 h0
  have h2 := heap_setCell_same _ b 2 _ _ a2 h1
  exact heap_setCell_same _ b 3 _ _ a3 h2
theorem PrAt.set {w : World} {p e : Nat} {s : kd.Ps} {o : Option Addr} {cap : Nat} (h : PrAt w p e s o cap) (a : Addr) (u : Value) (ha : p < a.block) : PrAt (w.setCell a u) p e s o cap :=
  h.keep (fun k hk => Below.heap_setCell w a u k (by omega)) (by simp)
theorem PrAt.drew {w : World} {p e : Nat} {s : kd.Ps} {o : Option Addr} {cap : Nat} (h : PrAt w p e s o cap) : PrAt w.drew p e s o cap := ⟨h.blk, ⟨h.row.len, h.row.le, h.row.max, h.row.at_⟩, h.low⟩
theorem Fr.drew {S : Nat → Prop} {a b : World} (h : Fr S a b) : Fr S a b.drew := ⟨h.os, h.tape, h.output, h.size, h.block⟩
set_option maxRecDepth 100000 in
set_option maxHeartbeats 1600000 in
theorem take_any (p e : Nat) (s : kd.Ps) (o : Option Addr) (cap : Nat) (w : World) (h : PrAt w p e s o cap) :
    Calls Tryz.prog 36 #[.pointer (some ⟨p, 0, none⟩)] w fun ev w' => ev = .returned (tokV (kd.peek e s)) ∧ (∃ o' cap', PrAt w' p e (kd.take s) o' cap') ∧ Fr (· = p) w w' := by
  have HP := Lib.hid (peek_any p e s o cap)
  have HH := Lib.hid h
  have hp := h.lt
  obtain ⟨k, hk⟩ : ∃ k, min 1 s.toks.length = k := ⟨_, rfl⟩
  have hmax := h.row.max
  have hle := h.row.le
  have hsl := fun kk wx => run_slo' o s.toks.length cap k k rfl (by omega) kk wx
  have hmn : min (1 : Int) (s.toks.length : Int) = (k : Int) := by omega
  have HK := Lib.hid hk
  generalize kd.peek e s = t at *
  clear h hk
  have hb0 := below_one w (.cells #[.int .i64 0, str [], .int .i64 0, .int .i64 0] 82)
  have h0 := HH.out.below hb0
  have HP0 := Lib.hid (HP.out _ h0)
  have HB0 := Lib.hid hb0
  have H0 := Lib.hid h0
  clear hb0 h0
  go_enter Tryz.func36, Tryz.ntmps36
  go_wp2_with fail
  refine HP0.out.mono ?_
  rintro ev w1 ⟨rfl, hb⟩
  have hr1 : w1.heap[w.heap.size]? = some (.cells #[.int .i64 0, str [], .int .i64 0, .int .i64 0] 82 (0, 0)) := (hb.block _ (by simp)).trans (heap_alloc_new _ _)
  have hb2 := below_one w1 (.cells #[.int .i64 t.kind, str t.text, .int .i64 t.int, .int .i64 t.at_] 82)
  have H1 := Lib.hid ((H0.out.below hb).below hb2)
  have HB1 := Lib.hid ((HB0.out.trans (hb.mono HB0.out.size)).trans (hb2.mono (Nat.le_trans HB0.out.size hb.size)))
  have hN := heap_alloc_new w1 (.cells #[.int .i64 t.kind, str t.text, .int .i64 t.int, .int .i64 t.at_] 82)
  have hr2 := (hb2.block w.heap.size (Array.getElem?_eq_some_iff.1 hr1).1).trans hr1
  have hs1 : w.heap.size + 1 ≤ w1.heap.size := by have := hb.size; simp at this; exact this
  clear hb hb2 hr1 HP0 HP H0 HB0
  go_upto_region 2 with fail
  generalize w1.alloc (.cells #[.int .i64 t.kind, str t.text, .int .i64 t.int, .int .i64 t.at_] 82) = w2 at *
  obtain ⟨c0, c1, c2, f0, f2, hp2⟩ := H1.out.cells
  clear c1 c2 f2
  have hX : PrAt (w2.setCell ⟨p, 0, none⟩ (.slice (slo o cap k) (s.toks.length - k) (cap - k))).drew p e (kd.take s) (slo o cap k) (cap - k) := (H1.out.take k HK.out.symm).drew
  have hF : Fr (· = p) w (w2.setCell ⟨p, 0, none⟩ (.slice (slo o cap k) (s.toks.length - k) (cap - k))).drew := ((Fr.of_below HB1.out (· = p)).setCell ⟨p, 0, none⟩ _ (.inr rfl)).drew
  have hN3 : (w2.setCell ⟨p, 0, none⟩ (.slice (slo o cap k) (s.toks.length - k) (cap - k))).drew.heap[w1.heap.size]? = some (.cells #[.int .i64 t.kind, str t.text, .int .i64 t.int, .int .i64 t.at_] 82 (0, 0)) := heap_set_other w2 _ _ (show w1.heap.size ≠ p by omega) hN
  have hR3 : (w2.setCell ⟨p, 0, none⟩ (.slice (slo o cap k) (s.toks.length - k) (cap - k))).drew.heap[w.heap.size]? = some (.cells #[.int .i64 0, str [], .int .i64 0, .int .i64 0] 82 (0, 0)) := heap_set_other w2 _ _ (show w.heap.size ≠ p by omega) hr2
  have H3 := Lib.hid (And.intro hX (And.intro hF (And.intro hN3 hR3)))
  clear hX hF hN3 hR3 hr2 hN
  go_region
  all_goals
    generalize (w2.setCell ⟨p, 0, none⟩ (.slice (slo o cap k) (s.toks.length - k) (cap - k))).drew = w3 at *
    have hN := H3.out.2.2.1
    have hR := H3.out.2.2.2
    have k0 : w3.cell? ⟨w1.heap.size, 0, none⟩ = some (.int .i64 t.kind) := (cell_of_heap hN).trans rfl
    have k1 : w3.cell? ⟨w1.heap.size, 1, none⟩ = some (str t.text) := (cell_of_heap hN).trans rfl
    have k2 : w3.cell? ⟨w1.heap.size, 2, none⟩ = some (.int .i64 t.int) := (cell_of_heap hN).trans rfl
    have k3 : w3.cell? ⟨w1.heap.size, 3, none⟩ = some (.int .i64 t.at_) := (cell_of_heap hN).trans rfl
    have g0 : w3.cell? ⟨w.heap.size, 0, none⟩ = some (.int .i64 0) := (cell_of_heap hR).trans rfl
    have g1 : w3.cell? ⟨w.heap.size, 1, none⟩ = some (str []) := (cell_of_heap hR).trans rfl
    have g2 : w3.cell? ⟨w.heap.size, 2, none⟩ = some (.int .i64 0) := (cell_of_heap hR).trans rfl
    have g3 : w3.cell? ⟨w.heap.size, 3, none⟩ = some (.int .i64 0) := (cell_of_heap hR).trans rfl
    have e0 : w3.frozen? ⟨w.heap.size, 0, none⟩ = false := by simp [World.frozen?, hR]
    have e1 : w3.frozen? ⟨w.heap.size, 1, none⟩ = false := by simp [World.frozen?, hR]
    have e2 : w3.frozen? ⟨w.heap.size, 2, none⟩ = false := by simp [World.frozen?, hR]
    have e3 : w3.frozen? ⟨w.heap.size, 3, none⟩ = false := by simp [World.frozen?, hR]
    have hlt3 : w.heap.size < w3.heap.size := (Array.getElem?_eq_some_iff.1 hR).1
    have H4 := Lib.hid (And.intro (store4 hR (.int .i64 t.kind) (str t.text) (.int .i64 t.int) (.int .i64 t.at_)) (And.intro ((((H3.out.1.set ⟨w.heap.size, 0, none⟩ (.int .i64 t.kind) hp).set ⟨w.heap.size, 1, none⟩ (str t.text) hp).set ⟨w.heap.size, 2, none⟩ (.int .i64 t.int) hp).set ⟨w.heap.size, 3, none⟩ (.int .i64 t.at_) hp) ((((H3.out.2.1.setCell ⟨w.heap.size, 0, none⟩ (.int .i64 t.kind) (.inl (Nat.le_refl _))).setCell ⟨w.heap.size, 1, none⟩ (str t.text) (.inl (Nat.le_refl _))).setCell ⟨w.heap.size, 2, none⟩ (.int .i64 t.int) (.inl (Nat.le_refl _))).setCell ⟨w.heap.size, 3, none⟩ (.int .i64 t.at_) (.inl (Nat.le_refl _)))))
    clear hN hR
    go_wp2_with fail
    refine bodyPost_ret (results_cell_row rfl _ _ w.heap.size 82 _ (0, 0) _ rfl H4.out.1 Tryz.underlying82 rfl (by kernel_rfl)) rfl ?_
    exact ⟨rfl, ⟨_, _, H4.out.2.1⟩, H4.out.2.2⟩
end Go.Proofs.YthmiaamjbokljaaGreatDoor
