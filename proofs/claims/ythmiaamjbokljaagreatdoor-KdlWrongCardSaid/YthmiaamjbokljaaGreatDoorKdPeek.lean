/- The parser's small methods: peek, isSign, isName, isValue, fault, stray, value, closes, take. -/
import Derived.Test.YthmiaamjbokljaaGreatDoorKdMem
namespace Go.Proofs.YthmiaamjbokljaaGreatDoor
open Go.RowKit
set_option maxRecDepth 100000 in
set_option maxHeartbeats 800000 in
theorem peek_any (p e : Nat) (s : kd.Ps) (o : Option Addr) (cap : Nat) (w : World) (h : PrAt w p e s o cap) :
    Calls Tryz.prog 35 #[.pointer (some ⟨p, 0, none⟩)] w fun ev w' => ev = .returned (tokV (kd.peek e s)) ∧ Below w.heap.size w w' := by
  obtain ⟨c0, c1, c2, f0, f2, hp⟩ := h.cells
  obtain ⟨l, b⟩ := s
  cases l with
  | nil =>
    dsimp only [List.length_nil] at c0
    clear h
    go_enter Tryz.func35, Tryz.ntmps35
    go_wp2_with fail
    refine bodyPost_ret (results_cell_row rfl _ _ w.heap.size 82 _ (0, 0) _ rfl (heap_alloc_new _ _) Tryz.underlying82 rfl (by kernel_rfl)) rfl ?_
    exact ⟨rfl, (Below.refl _ _).alloc (Nat.le_refl _) _⟩
  | cons t r =>
    obtain ⟨bo, off, rfl, hb, k0, k1, k2, k3⟩ := h.front rfl
    dsimp only [List.length_cons] at c0
    clear h
    generalize r.length = n at *
    have hz : ((n : Int) + 1 == 0) = false := by simp; omega
    have hz2 : (((n + 1 : Nat) : Int) == 0) = false := by simp; omega
    have hpos : (0 : Int) < (n : Int) + 1 := by omega
    go_enter Tryz.func35, Tryz.ntmps35
    go_wp2_with fail
    refine bodyPost_ret (results_cell_row rfl _ _ w.heap.size 82 _ (0, 0) _ rfl (heap_alloc_new _ _) Tryz.underlying82 rfl (by kernel_rfl)) rfl ?_
    exact ⟨rfl, (Below.refl _ _).alloc (Nat.le_refl _) _⟩
theorem str_eq (a b : List UInt8) : (ByteArray.mk a.toArray = ByteArray.mk b.toArray) = (a = b) := by simp
theorem box_tok (t : tk.Tok) (w : World) : Below w.heap.size w (w.alloc (.cells #[.int .i64 t.kind, str t.text, .int .i64 t.int, .int .i64 t.at_] 82)) := below_one w _
set_option maxRecDepth 100000 in
set_option maxHeartbeats 800000 in
theorem kd.isSign_any (t : tk.Tok) (c : UInt8) (w : World) :
    Calls Tryz.prog 66 #[tokV t, .string ⟨#[c]⟩] w fun ev w' => ev = .returned (.bool (kd.isSign t c)) ∧ Below w.heap.size w w' := by
  obtain ⟨k, x, i, y⟩ := t
  have HB := Lib.hid (box_tok ⟨k, x, i, y⟩ w)
  have HE := Lib.hid (str_eq x [c])
  by_cases h4 : k = 4
  · subst h4
    have HR : Hid (kd.isSign ⟨4, x, i, y⟩ c = decide (x = [c])) := Lib.hid (by unfold kd.isSign; simp)
    generalize kd.isSign ⟨4, x, i, y⟩ c = R at *
    dsimp only at HB ⊢
    go_enter Tryz.func66, Tryz.ntmps66
    go_wp2_with fail
    go_ret
    refine ⟨ret_bool ?_, HB.out⟩
    rw [HR.out]
    rw [Bool.eq_iff_iff]
    simp
  · have h4i : ((k : Int) == 4) = false := by simp; omega
    have HR : Hid (kd.isSign ⟨k, x, i, y⟩ c = false) := Lib.hid (by unfold kd.isSign; simp [h4])
    generalize kd.isSign ⟨k, x, i, y⟩ c = R at *
    dsimp only at HB ⊢
    clear h4
    go_enter Tryz.func66, Tryz.ntmps66
    go_wp2_with fail
    go_ret
    exact ⟨ret_bool HR.out.symm, HB.out⟩
set_option maxRecDepth 100000 in
set_option maxHeartbeats 800000 in
theorem kd.isName_any (t : tk.Tok) (w : World) :
    Calls Tryz.prog 67 #[tokV t] w fun ev w' => ev = .returned (.bool (kd.isName t)) ∧ Below w.heap.size w w' := by
  obtain ⟨k, x, i, y⟩ := t
  have HB := Lib.hid (box_tok ⟨k, x, i, y⟩ w)
  by_cases h1 : k = 1
  · subst h1
    have HR : Hid (kd.isName ⟨1, x, i, y⟩ = true) := Lib.hid (by unfold kd.isName; simp)
    generalize kd.isName ⟨1, x, i, y⟩ = R at *
    dsimp only at HB ⊢
    go_enter Tryz.func67, Tryz.ntmps67
    go_wp2_with fail
    go_ret
    exact ⟨ret_bool HR.out.symm, HB.out⟩
  · have h1i : ((k : Int) == 1) = false := by simp; omega
    have HR : Hid (kd.isName ⟨k, x, i, y⟩ = ((k : Int) == 2)) := Lib.hid (by
      unfold kd.isName
      rw [Bool.eq_iff_iff]
      simp
      omega)
    generalize kd.isName ⟨k, x, i, y⟩ = R at *
    dsimp only at HB ⊢
    clear h1
    go_enter Tryz.func67, Tryz.ntmps67
    go_wp2_with fail
    go_ret
    exact ⟨ret_bool HR.out.symm, HB.out⟩
set_option maxRecDepth 100000 in
set_option maxHeartbeats 800000 in
theorem kd.isValue_any (t : tk.Tok) (w : World) :
    Calls Tryz.prog 89 #[tokV t] w fun ev w' => ev = .returned (.bool (kd.isValue t)) ∧ Below w.heap.size w w' := by
  have hb := box_tok t w
  have HB := Lib.hid hb
  have hN := heap_alloc_new w (.cells #[.int .i64 t.kind, str t.text, .int .i64 t.int, .int .i64 t.at_] 82)
  have HN := Lib.hid hN
  have HC := Lib.hid (kd.isName_any t (w.alloc (.cells #[.int .i64 t.kind, str t.text, .int .i64 t.int, .int .i64 t.at_] 82)))
  have HR : Hid (kd.isValue t = (kd.isName t || ((t.kind : Int) == 3))) := Lib.hid (by
    unfold kd.isValue
    congr 1
    rw [Bool.eq_iff_iff]
    simp
    omega)
  clear hb hN
  generalize kd.isValue t = R at *
  generalize kd.isName t = N at *
  go_enter Tryz.func89, Tryz.ntmps89
  go_wp2_with fail
  refine HC.out.mono ?_
  rintro ev w1 ⟨rfl, hb⟩
  have HB1 := Lib.hid (HB.out.trans (hb.mono HB.out.size))
  have q0 : w1.cell? ⟨w.heap.size, 0, none⟩ = some (.int .i64 t.kind) := (hb.cell (p := ⟨w.heap.size, 0, none⟩) (by simp)).trans ((cell_of_heap HN.out).trans rfl)
  clear hb
  cases N
  all_goals
    go_wp2_with fail
    go_ret
    exact ⟨ret_bool HR.out.symm, HB1.out⟩
set_option maxRecDepth 100000 in
set_option maxHeartbeats 800000 in
theorem kd.fault_any (c : Int) (t : tk.Tok) (w : World) :
    Calls Tryz.prog 69 #[.int .i64 c, tokV t] w fun ev w' => ev = .returned (.agg #[.int .i64 c, .int .i64 t.at_]) ∧ Below w.heap.size w w' := by
  go_enter Tryz.func69, Tryz.ntmps69
  go_wp2_with fail
  refine bodyPost_ret (results_cell_row rfl _ _ (w.heap.size + 1) 30 _ (0, 0) _ rfl (by have := heap_alloc_new (w.alloc (.cells #[.int .i64 t.kind, str t.text, .int .i64 t.int, .int .i64 t.at_] 82)) (.cells #[.int .i64 c, .int .i64 t.at_] 30); rwa [World.size_alloc] at this) Tryz.underlying30 rfl (by kernel_rfl)) rfl ?_
  exact ⟨rfl, ((Below.refl _ _).alloc (Nat.le_refl _) _).alloc (by simp) _⟩
/-- behind a call whose answer is stored into the result's block -/
theorem store_fault {w w1 : World} {b : Nat} {B : Nat} (hB : B ≤ b) (hb : Below B w w1) (hh : w1.heap[b]? = some (.cells #[.int .i64 0, .int .i64 0] 30 (0, 0))) (c x : Int) :
    ((w1.setCell ⟨b, 0, none⟩ (.int .i64 c)).setCell ⟨b, 1, none⟩ (.int .i64 x)).heap[b]? = some (.cells #[.int .i64 c, .int .i64 x] 30 (0, 0)) ∧ Below B w ((w1.setCell ⟨b, 0, none⟩ (.int .i64 c)).setCell ⟨b, 1, none⟩ (.int .i64 x)) :=
  ⟨heap_setCell_same _ b 1 _ _ (.int .i64 x) (heap_setCell_same w1 b 0 _ _ (.int .i64 c) hh), (hb.setCell hB _).setCell hB _⟩
set_option maxRecDepth 100000 in
set_option maxHeartbeats 800000 in
theorem kd.stray_any (t : tk.Tok) (w : World) :
    Calls Tryz.prog 68 #[tokV t] w fun ev w' => ev = .returned (.agg #[.int .i64 (kd.stray t), .int .i64 t.at_]) ∧ Below w.heap.size w w' := by
  obtain ⟨k, x, i, y⟩ := t
  have hF : ∀ c, Calls Tryz.prog 69 #[.int .i64 c, tokV ⟨k, x, i, y⟩] ((w.alloc (.cells #[.int .i64 k, str x, .int .i64 i, .int .i64 y] 82)).alloc (.cells #[.int .i64 0, .int .i64 0] 30)) fun ev w' => ev = .returned (.agg #[.int .i64 c, .int .i64 y]) ∧ w'.heap[w.heap.size + 1]? = some (.cells #[.int .i64 0, .int .i64 0] 30 (0, 0)) ∧
      (((w'.setCell ⟨w.heap.size + 1, 0, none⟩ (.int .i64 c)).setCell ⟨w.heap.size + 1, 1, none⟩ (.int .i64 y)).heap[w.heap.size + 1]? = some (.cells #[.int .i64 c, .int .i64 y] 30 (0, 0)) ∧ Below w.heap.size w ((w'.setCell ⟨w.heap.size + 1, 0, none⟩ (.int .i64 c)).setCell ⟨w.heap.size + 1, 1, none⟩ (.int .i64 y))) := fun c => by
    refine (kd.fault_any c ⟨k, x, i, y⟩ _).mono ?_
    rintro ev w' ⟨rfl, hb⟩
    have hz : w'.heap[w.heap.size + 1]? = some (.cells #[.int .i64 0, .int .i64 0] 30 (0, 0)) := by
      rw [hb.block _ (by simp)]
      have := heap_alloc_new (w.alloc (.cells #[.int .i64 k, str x, .int .i64 i, .int .i64 y] 82)) (.cells #[.int .i64 0, .int .i64 0] 30)
      rwa [World.size_alloc] at this
    refine ⟨rfl, hz, ?_⟩
    have h1 : Below w.heap.size w ((w.alloc (.cells #[.int .i64 k, str x, .int .i64 i, .int .i64 y] 82)).alloc (.cells #[.int .i64 0, .int .i64 0] 30)) := ((Below.refl _ _).alloc (Nat.le_refl _) _).alloc (by simp) _
    refine store_fault (Nat.le_succ _) (h1.trans (hb.mono h1.size)) hz c y
  have HF := Lib.hid hF
  clear hF
  by_cases h0 : k = 0
  · subst h0
    show Calls Tryz.prog 68 #[tokV ⟨0, x, i, y⟩] w fun ev w' => ev = .returned (.agg #[.int .i64 82, .int .i64 y]) ∧ Below w.heap.size w w'
    go_enter Tryz.func68, Tryz.ntmps68
    go_wp2_with fail
    refine (HF.out 82).mono ?_
    rintro ev w1 ⟨rfl, hz, hh⟩
    have HH := Lib.hid hh
    have d0 : w1.cell? ⟨w.heap.size + 1, 0, none⟩ = some (.int .i64 0) := (cell_of_heap hz).trans rfl
    have d1 : w1.cell? ⟨w.heap.size + 1, 1, none⟩ = some (.int .i64 0) := (cell_of_heap hz).trans rfl
    have e0 : w1.frozen? ⟨w.heap.size + 1, 0, none⟩ = false := by simp [World.frozen?, hz]
    have e1 : w1.frozen? ⟨w.heap.size + 1, 1, none⟩ = false := by simp [World.frozen?, hz]
    clear hh HF hz
    go_wp2_with fail
    refine bodyPost_ret (results_cell_row rfl _ _ (w.heap.size + 1) 30 _ (0, 0) _ rfl HH.out.1 Tryz.underlying30 rfl (by kernel_rfl)) rfl ?_
    exact ⟨rfl, HH.out.2⟩
  · have h0i : ((k : Int) == 0) = false := by simp; omega
    have hr : kd.stray ⟨k, x, i, y⟩ = 80 := if_neg h0
    rw [hr]
    clear hr h0
    go_enter Tryz.func68, Tryz.ntmps68
    go_wp2_with fail
    refine (HF.out 80).mono ?_
    rintro ev w1 ⟨rfl, hz, hh⟩
    have HH := Lib.hid hh
    have d0 : w1.cell? ⟨w.heap.size + 1, 0, none⟩ = some (.int .i64 0) := (cell_of_heap hz).trans rfl
    have d1 : w1.cell? ⟨w.heap.size + 1, 1, none⟩ = some (.int .i64 0) := (cell_of_heap hz).trans rfl
    have e0 : w1.frozen? ⟨w.heap.size + 1, 0, none⟩ = false := by simp [World.frozen?, hz]
    have e1 : w1.frozen? ⟨w.heap.size + 1, 1, none⟩ = false := by simp [World.frozen?, hz]
    clear hh HF hz
    go_wp2_with fail
    refine bodyPost_ret (results_cell_row rfl _ _ (w.heap.size + 1) 30 _ (0, 0) _ rfl HH.out.1 Tryz.underlying30 rfl (by kernel_rfl)) rfl ?_
    exact ⟨rfl, HH.out.2⟩
end Go.Proofs.YthmiaamjbokljaaGreatDoor
