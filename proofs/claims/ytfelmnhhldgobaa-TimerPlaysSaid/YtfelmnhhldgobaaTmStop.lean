/- A clock's Stop: its closure, slices.IndexFunc. -/
import Derived.Test.YtfelmnhhldgobaaTmAll
namespace Go.Proofs.Ytfelmnhhldgobaa
open Go.RowKit
namespace tm
def find (p : T → Bool) : List T → Nat → Int
  | [], _ => -1
  | t :: l, i => if p t = true then (i : Int) else find p l (i + 1)
theorem find_at (p : T → Bool) (l : List T) (i : Nat) (h : i < l.length) : find p (l.drop i) i = if p (ix l i) = true then (i : Int) else find p (l.drop (i + 1)) (i + 1) := by
  rw [List.drop_eq_getElem_cons h, ← ix_get h]
  rfl
theorem find_end (p : T → Bool) (l : List T) (i : Nat) (h : l.length ≤ i) : find p (l.drop i) i = -1 := by
  rw [List.drop_eq_nil_of_le h]
  rfl
theorem find_lt (p : T → Bool) : ∀ (l : List T) (i : Nat), find p l i = -1 ∨ ∃ k : Nat, find p l i = ((i + k : Nat) : Int) ∧ k < l.length
  | [], _ => .inl rfl
  | t :: l, i => by
    unfold find
    split
    · exact .inr ⟨0, rfl, by simp⟩
    · rcases find_lt p l (i + 1) with a | ⟨k, a, b⟩
      · exact .inl a
      · exact .inr ⟨k + 1, by rw [a]; congr 1; omega, by simpa using b⟩
def hasId (x : Int) (t : T) : Bool := t.id == x
def hasOwner (x : Int) (t : T) : Bool := t.owner == x
def stopR (s : St) (x : Int) : Int × St := if find (hasId x) s.l 0 < 0 then (5, s) else (0, ⟨s.now, s.last, remove s.l (find (hasId x) s.l 0).toNat⟩)
end tm
set_option maxRecDepth 100000 in
theorem cl_stop (t : tm.T) (b : Nat) (x : Int) (w : World) (hb : w.cell? ⟨b, 0, none⟩ = some (.int .i64 x)) (hl : b < w.heap.size) : Calls Try.prog 28 #[tV t, .pointer (some ⟨b, 0, none⟩)] w fun e w' => e = .returned (.bool (tm.hasId x t)) ∧ Below w.heap.size w w' := by
  have b1 := below_one w (tO t)
  have a1 := heap_alloc_new w (tO t)
  have c0 : (w.alloc (tO t)).cell? ⟨w.heap.size, 0, none⟩ = some (.int .i64 t.id) := (cell_of_heap a1).trans rfl
  have c1 : (w.alloc (tO t)).cell? ⟨w.heap.size, 1, none⟩ = some (.int .i64 t.owner) := (cell_of_heap a1).trans rfl
  have hb' : (w.alloc (tO t)).cell? ⟨b, 0, none⟩ = some (.int .i64 x) := (cell_of_eq (b1.block b hl) 0).trans hb
  have lx := heap_lt a1
  have HB := Lib.hid b1
  clear a1 b1
  go_enter Try.func28, Try.ntmps28
  go_upto_region 1 with fail
  obtain ⟨W, hW⟩ : ∃ W, w.alloc (tO t) = W := ⟨_, rfl⟩
  change Code.wp _ _ _ _ (w.alloc (tO t))
  rw [hW] at c0 c1 hb' lx HB ⊢
  clear hW
  go_wp2_with fail
  go_ret
  exact ⟨rfl, HB.out⟩
set_option maxRecDepth 100000 in
set_option maxHeartbeats 800000 in
theorem index_stop (g n cap : Nat) (l : List tm.T) (b : Nat) (x : Int) (w : World) (hq : QIn w g n cap l) (hb : w.cell? ⟨b, 0, none⟩ = some (.int .i64 x)) (hl : b < w.heap.size) (R : Int) (hR : tm.find (tm.hasId x) l 0 = R) : Calls Try.prog 27 #[.slice (some ⟨g, 0, none⟩) n cap, .func (.func 28) #[] #[.pointer (some ⟨b, 0, none⟩)]] w fun e w' => e = .returned (.int .i64 R) ∧ Below w.heap.size w w' := by
  have hcm := hq.cm
  have hnc := hq.nc
  have HQ := Lib.hid (And.intro hq (And.intro hb hl))
  have H0 := Lib.hid (And.intro hR (Below.refl w.heap.size w))
  clear hq hb hl hR
  go_enter Try.func27, Try.ntmps27
  go_wp2_with fail
  go_loopg [8] n (fun gg s8 wr => ∃ k : Nat, s8 = .int .i64 k ∧ k ≤ n ∧ n - k ≤ gg ∧ Hid (tm.find (tm.hasId x) (l.drop k) k = R ∧ Below w.heap.size w wr))
  case atStart => exact ⟨0, rfl, Nat.zero_le _, by omega, H0⟩
  case round =>
    clear H0
    obtain ⟨k, rfl, hk, hgg, HT⟩ := hrel
    have hlen := HQ.out.1.len
    by_cases hlt : k < n
    · have hki : (k : Int) < (n : Int) := by omega
      have hq' := HQ.out.1.keep (HT.out.2.block _ HQ.out.1.lt)
      obtain ⟨d0, d1, d2, d3⟩ := hq'.cell (tm.ix_at (l := l) (i := k) (by omega))
      have hgl := hq'.lt
      have HF := Lib.hid ((tm.find_at (tm.hasId x) l k (by omega)).symm.trans HT.out.1)
      generalize tm.ix l k = t at *
      have HC := Lib.hid (cl_stop t b x wr ((cell_of_eq (HT.out.2.block b HQ.out.2.2) 0).trans HQ.out.2.1) (Nat.lt_of_lt_of_le HQ.out.2.2 HT.out.2.size))
      clear hq' hlen
      cases hp : tm.hasId x t with
      | true =>
        rw [hp] at HC HF
        go_wp2_with fail
        refine HC.out.mono ?_
        rintro e w2 ⟨rfl, hb2⟩
        have HB2 := Lib.hid (HT.out.2.trans (hb2.mono HT.out.2.size))
        clear hb2
        go_wp2_with fail
        go_ret
        exact ⟨ret_int (by have := HF.out; simpa using this), HB2.out⟩
      | false =>
        rw [hp] at HC HF
        go_wp2_with fail
        refine HC.out.mono ?_
        rintro e w2 ⟨rfl, hb2⟩
        have HB2 := Lib.hid (HT.out.2.trans (hb2.mono HT.out.2.size))
        clear hb2
        go_wp2_with fail
        go_roundg (n - (k + 1))
        case measure => omega
        case rel => exact ⟨k + 1, by go_num, by omega, Nat.le_refl _, Lib.hid ⟨by have := HF.out; rwa [if_neg (by decide)] at this, HB2.out⟩⟩
    · obtain rfl : k = n := by omega
      have HF : Hid (-1 = R) := Lib.hid ((tm.find_end (tm.hasId x) l k (by omega)).symm.trans HT.out.1)
      clear hlen
      go_wp2_with fail
      go_ret
      exact ⟨ret_int HF.out, HT.out.2⟩
set_option maxRecDepth 100000 in
theorem cl_drop (t : tm.T) (b : Nat) (x : Int) (w : World) (hb : w.cell? ⟨b, 0, none⟩ = some (.int .i64 x)) (hl : b < w.heap.size) : Calls Try.prog 31 #[tV t, .pointer (some ⟨b, 0, none⟩)] w fun e w' => e = .returned (.bool (tm.hasOwner x t)) ∧ Below w.heap.size w w' := by
  have b1 := below_one w (tO t)
  have a1 := heap_alloc_new w (tO t)
  have c0 : (w.alloc (tO t)).cell? ⟨w.heap.size, 0, none⟩ = some (.int .i64 t.id) := (cell_of_heap a1).trans rfl
  have c1 : (w.alloc (tO t)).cell? ⟨w.heap.size, 1, none⟩ = some (.int .i64 t.owner) := (cell_of_heap a1).trans rfl
  have hb' : (w.alloc (tO t)).cell? ⟨b, 0, none⟩ = some (.int .i64 x) := (cell_of_eq (b1.block b hl) 0).trans hb
  have lx := heap_lt a1
  have HB := Lib.hid b1
  clear a1 b1
  go_enter Try.func31, Try.ntmps31
  go_upto_region 1 with fail
  obtain ⟨W, hW⟩ : ∃ W, w.alloc (tO t) = W := ⟨_, rfl⟩
  change Code.wp _ _ _ _ (w.alloc (tO t))
  rw [hW] at c0 c1 hb' lx HB ⊢
  clear hW
  go_wp2_with fail
  go_ret
  exact ⟨rfl, HB.out⟩
set_option maxRecDepth 100000 in
set_option maxHeartbeats 800000 in
theorem index_drop (g n cap : Nat) (l : List tm.T) (b : Nat) (x : Int) (w : World) (hq : QIn w g n cap l) (hb : w.cell? ⟨b, 0, none⟩ = some (.int .i64 x)) (hl : b < w.heap.size) (R : Int) (hR : tm.find (tm.hasOwner x) l 0 = R) : Calls Try.prog 27 #[.slice (some ⟨g, 0, none⟩) n cap, .func (.func 31) #[] #[.pointer (some ⟨b, 0, none⟩)]] w fun e w' => e = .returned (.int .i64 R) ∧ Below w.heap.size w w' := by
  have hcm := hq.cm
  have hnc := hq.nc
  have HQ := Lib.hid (And.intro hq (And.intro hb hl))
  have H0 := Lib.hid (And.intro hR (Below.refl w.heap.size w))
  clear hq hb hl hR
  go_enter Try.func27, Try.ntmps27
  go_wp2_with fail
  go_loopg [8] n (fun gg s8 wr => ∃ k : Nat, s8 = .int .i64 k ∧ k ≤ n ∧ n - k ≤ gg ∧ Hid (tm.find (tm.hasOwner x) (l.drop k) k = R ∧ Below w.heap.size w wr))
  case atStart => exact ⟨0, rfl, Nat.zero_le _, by omega, H0⟩
  case round =>
    clear H0
    obtain ⟨k, rfl, hk, hgg, HT⟩ := hrel
    have hlen := HQ.out.1.len
    by_cases hlt : k < n
    · have hki : (k : Int) < (n : Int) := by omega
      have hq' := HQ.out.1.keep (HT.out.2.block _ HQ.out.1.lt)
      obtain ⟨d0, d1, d2, d3⟩ := hq'.cell (tm.ix_at (l := l) (i := k) (by omega))
      have hgl := hq'.lt
      have HF := Lib.hid ((tm.find_at (tm.hasOwner x) l k (by omega)).symm.trans HT.out.1)
      generalize tm.ix l k = t at *
      have HC := Lib.hid (cl_drop t b x wr ((cell_of_eq (HT.out.2.block b HQ.out.2.2) 0).trans HQ.out.2.1) (Nat.lt_of_lt_of_le HQ.out.2.2 HT.out.2.size))
      clear hq' hlen
      cases hp : tm.hasOwner x t with
      | true =>
        rw [hp] at HC HF
        go_wp2_with fail
        refine HC.out.mono ?_
        rintro e w2 ⟨rfl, hb2⟩
        have HB2 := Lib.hid (HT.out.2.trans (hb2.mono HT.out.2.size))
        clear hb2
        go_wp2_with fail
        go_ret
        exact ⟨ret_int (by have := HF.out; simpa using this), HB2.out⟩
      | false =>
        rw [hp] at HC HF
        go_wp2_with fail
        refine HC.out.mono ?_
        rintro e w2 ⟨rfl, hb2⟩
        have HB2 := Lib.hid (HT.out.2.trans (hb2.mono HT.out.2.size))
        clear hb2
        go_wp2_with fail
        go_roundg (n - (k + 1))
        case measure => omega
        case rel => exact ⟨k + 1, by go_num, by omega, Nat.le_refl _, Lib.hid ⟨by have := HF.out; rwa [if_neg (by decide)] at this, HB2.out⟩⟩
    · obtain rfl : k = n := by omega
      have HF : Hid (-1 = R) := Lib.hid ((tm.find_end (tm.hasOwner x) l k (by omega)).symm.trans HT.out.1)
      clear hlen
      go_wp2_with fail
      go_ret
      exact ⟨ret_int HF.out, HT.out.2⟩
set_option maxRecDepth 100000 in
set_option maxHeartbeats 800000 in
theorem stop_any (c : Nat) (V : Value) (s : tm.St) (x : Int) (w : World) (h : CS w c V s) (hlen : s.l.length ≤ 64) (hl : 0 < s.l.length) (R : Int × tm.St) (hR : tm.stopR s x = R) : Calls Try.prog 11 #[.pointer (some ⟨c, 0, none⟩), .int .i64 x] w fun e w' => e = .returned (.int .i64 R.1) ∧ CSR c V w w' R.2 := by
  have b1 := below_one w (.cells #[.int .i64 x] 3)
  have a1 := heap_alloc_new w (.cells #[.int .i64 x] 3)
  have h1 := h.below b1
  obtain ⟨-, -, c2⟩ := h1.cell
  have hlt := h1.lt
  obtain ⟨g, cap, rfl, hcg, hq⟩ := h1.hq hl
  have HI := Lib.hid (index_stop g s.l.length cap s.l w.heap.size x (w.alloc (.cells #[.int .i64 x] 3)) hq.q ((cell_of_heap a1).trans rfl) (heap_lt a1) _ rfl)
  have HF := Lib.hid (tm.find_lt (tm.hasId x) s.l 0)
  have HH := Lib.hid (And.intro h1 b1)
  have HR : Hid (R = if tm.find (tm.hasId x) s.l 0 < 0 then (5, s) else (0, ⟨s.now, s.last, tm.remove s.l (tm.find (tm.hasId x) s.l 0).toNat⟩)) := Lib.hid hR.symm
  generalize tm.find (tm.hasId x) s.l 0 = r at *
  clear h h1 a1 hq hR
  go_enter Try.func11, Try.ntmps11
  go_upto_region 1 with fail
  obtain ⟨W, hW⟩ : ∃ W, w.alloc (.cells #[.int .i64 x] 3) = W := ⟨_, rfl⟩
  change Code.wp _ _ _ _ (w.alloc (.cells #[.int .i64 x] 3))
  rw [hW] at HI HH c2 hlt ⊢
  clear hW b1
  go_wp2_with fail
  refine HI.out.mono ?_
  rintro e w2 ⟨rfl, hb2⟩
  have H2 := Lib.hid (And.intro (HH.out.1.below hb2) (HH.out.2.trans (hb2.mono HH.out.2.size)))
  clear hb2 c2 hlt HI
  have hlt := H2.out.1.lt
  by_cases hr : r < 0
  · have HE : Hid (R = (5, s)) := Lib.hid (by rw [HR.out, if_pos hr])
    obtain rfl := HE.out
    go_wp2_with fail
    go_ret
    exact ⟨rfl, CKR.after H2.out.2 (CKR.same H2.out.1)⟩
  · obtain ⟨i, rfl, hi⟩ : ∃ i : Nat, r = (i : Int) ∧ i < s.l.length := by
      rcases HF.out with a | ⟨k, a, b⟩
      · omega
      · exact ⟨k, by omega, b⟩
    have HE : Hid (R = (0, ⟨s.now, s.last, tm.remove s.l i⟩)) := Lib.hid (by rw [HR.out, if_neg hr]; simp)
    obtain rfl := HE.out
    have HM := Lib.hid (hremove_any c i s.now s.last _ s.l w2 H2.out.1 hi (by omega))
    clear HF hr HE HR
    go_wp2_with fail
    refine HM.out.mono ?_
    rintro e w3 ⟨⟨v, rfl⟩, r3⟩
    have HZ := Lib.hid (CKR.after H2.out.2 r3)
    clear r3
    go_wp2_with fail
    go_ret
    exact ⟨rfl, HZ.out⟩
end Go.Proofs.Ytfelmnhhldgobaa
