/- What is begun of a sequence, and what a byte does with it. addText, addInter. addNumber, addParam. addParam. -/
import Derived.Test.YtgkodjkhhmcnnaaDoorEscMem
import Derived.Deep.OwnRows
namespace Go.Proofs.YtgkodjkhhmcnnaaDoor
open Go.RowKit

theorem isText_any (b : UInt8) (w : World) : Calls Tryd.prog 54 #[.int .u8 b.toNat] w fun e w' => e = .returned (.bool (es.isText b)) ∧ w = w' := by
  have hx : es.isText b = (decide ((32 : Int) ≤ (b.toNat : Int)) && !decide ((b.toNat : Int) = 127)) := by unfold es.isText; by_cases h1 : 32 ≤ b.toNat <;> by_cases h2 : b.toNat = 127 <;> simp [h1, h2] <;> omega
  rw [hx]
  generalize b.toNat = x
  by_cases h1 : (32 : Int) ≤ (x : Int)
  · go_enter Tryd.func54, Tryd.ntmps54
    go_wp2
    go_ret
    exact ⟨by simp [h1]; rfl, rfl⟩
  · have h1' : decide ((32 : Int) ≤ (x : Int)) = false := decide_eq_false h1
    go_enter Tryd.func54, Tryd.ntmps54
    go_wp2
    go_ret
    exact ⟨by simp, rfl⟩
theorem set_same {cur : Array Value} {i : Nat} {v : Value} (h : cur[i]? = some v) : cur.setIfInBounds i v = cur := by
  apply Array.ext_getElem?
  intro j
  rw [Array.getElem?_setIfInBounds]
  by_cases e : i = j
  · subst e
    rw [if_pos rfl, if_pos (Array.getElem?_eq_some_iff.1 h).1, h]
  · rw [if_neg e]
theorem PsAt.set {w : World} {p : Nat} {s s' : es.St} {cur : Array Value} (h : PsAt w p s cur) (i : Nat) (v : Value) (hi : PsIs (cur.setIfInBounds i v) s') : PsAt (w.setCell ⟨p, i, none⟩ v) p s' (cur.setIfInBounds i v) :=
  ⟨heap_setCell_same w p i cur _ v h.at_, hi⟩
theorem PsAt.drew {w : World} {p : Nat} {s : es.St} {cur : Array Value} (h : PsAt w p s cur) : PsAt w.drew p s cur := ⟨h.at_, h.is⟩
theorem PsAt.alloc {w : World} {p : Nat} {s : es.St} {cur : Array Value} (h : PsAt w p s cur) (o : Obj) : PsAt (w.alloc o) p s cur := h.below ((Below.refl w.heap.size w).alloc (Nat.le_refl _) o) h.lt
theorem PsAt.drewN {w : World} {p : Nat} {s : es.St} {cur : Array Value} (h : PsAt w p s cur) (n : Nat) : PsAt (w.drewN n) p s cur := ⟨h.at_, h.is⟩
theorem PsAt.set2 {w : World} {p : Nat} {s s' : es.St} {cur : Array Value} (h : PsAt w p s cur) (i j : Nat) (v u : Value) (hi : PsIs ((cur.setIfInBounds i v).setIfInBounds j u) s') : PsAt ((w.setCell ⟨p, i, none⟩ v).setCell ⟨p, j, none⟩ u) p s' ((cur.setIfInBounds i v).setIfInBounds j u) :=
  ⟨heap_setCell_same _ p j _ _ u (heap_setCell_same w p i cur _ v h.at_), hi⟩
theorem PsIs.next {cur : Array Value} {s : es.St} (h : PsIs cur s) (q : Nat) (hq : min ((s.params.length : Int) + 1) 17 = (q : Int) + 1) :
    PsIs ((cur.setIfInBounds 26 (.int .i64 ((q : Int) + 1))).setIfInBounds (9 + q) (.int .i64 (-1))) (es.nextNumber s) := by
  have hl := h.parl
  unfold es.nextNumber
  by_cases hc : s.params.length < 17
  · obtain rfl : q = s.params.length := by omega
    rw [if_pos hc]
    exact h.addPar (-1) hc
  · obtain rfl : q = 16 := by omega
    rw [if_neg hc, set_same (cur := cur) (i := 26) (by rw [h.cnt]; congr 2; omega)]
    exact h.setPar 16 (-1) (by omega)
theorem nextNumber_any (p : Nat) (s : es.St) (cur : Array Value) (w : World) (h : PsAt w p s cur) :
    Calls Tryd.prog 85 #[.pointer (some ⟨p, 5, none⟩)] w fun e w' => e = .returned (.tuple #[]) ∧ (∃ cur', PsAt w' p (es.nextNumber s) cur') ∧ Kept w w' (· = p) := by
  have c0 : w.cell? ⟨p, 26, none⟩ = some (.int .i64 (s.params.length : Nat)) := (h.c 26).trans h.is.cnt
  have f0 := h.f 26
  have hl := h.is.parl
  obtain ⟨q, hq⟩ : ∃ q : Nat, min ((s.params.length : Int) + 1) 17 = (q : Int) + 1 := ⟨min s.params.length 16, by omega⟩
  have hq16 : q ≤ 16 := by omega
  have hqi : (q : Int) < 17 := by omega
  have hq0 : (0 : Int) ≤ (q : Int) := by omega
  obtain ⟨u, cq⟩ := h.is.parc q (by omega)
  have c1 : (w.setCell ⟨p, 26, none⟩ (.int .i64 ((q : Int) + 1))).cell? ⟨p, 9 + q, none⟩ = some (.int .i64 u) := by
    rw [cell_of_heap (heap_setCell_same w p 26 cur _ _ h.at_), gi _ _ _ _ (by omega)]; exact cq
  have f1 : (w.setCell ⟨p, 26, none⟩ (.int .i64 ((q : Int) + 1))).frozen? ⟨p, 9 + q, none⟩ = false := by simp [World.frozen?, heap_setCell_same w p 26 cur _ _ h.at_]
  have hs := h.set2 26 (9 + q) (.int .i64 ((q : Int) + 1)) (.int .i64 (-1)) (h.is.next q hq)
  have hk := ((Kept.refl w (· = p)).setCell (p := ⟨p, 26, none⟩) (fun _ => rfl) (.int .i64 ((q : Int) + 1))).setCell (p := ⟨p, 9 + q, none⟩) (fun _ => rfl) (.int .i64 (-1))
  have hsz := h.is.size
  have HH := Lib.hid (And.intro hs hk)
  have hw1 : IntKind.i64.wrap ((q : Int) + 1 - 1) = (q : Int) := by rw [IntKind.wrap_i64]; omega
  clear h hs hk cq hsz
  go_enter Tryd.func85, Tryd.ntmps85
  go_wp2_with fail
  go_region
  all_goals go_wp2_with fail
  all_goals go_end0
  all_goals exact ⟨rfl, ⟨_, HH.out.1.drew⟩, HH.out.2.drew⟩
end Go.Proofs.YtgkodjkhhmcnnaaDoor
namespace Go.Proofs.YtgkodjkhhmcnnaaDoor
open Go.RowKit

theorem addText_any (p : Nat) (s : es.St) (cur : Array Value) (b : UInt8) (w : World) (h : PsAt w p s cur) :
    Calls Tryd.prog 63 #[.pointer (some ⟨p, 5, none⟩), .int .u8 b.toNat] w fun e w' => e = .returned (.tuple #[]) ∧ (∃ cur', PsAt w' p (es.addText s b) cur') ∧ Kept w w' (· = p) := by
  have c0 : w.cell? ⟨p, 283, none⟩ = some (.int .i64 (s.text.length : Nat)) := (h.c 283).trans h.is.len
  have hl := h.is.txtl
  by_cases hc : s.text.length < 256
  · have hs : ∃ cur', PsAt ((w.setCell ⟨p, 27 + s.text.length, none⟩ (.int .u8 b.toNat)).setCell ⟨p, 283, none⟩ (.int .i64 ((s.text.length : Int) + 1))) p (es.addText s b) cur' := by
      unfold es.addText
      rw [if_pos hc]
      exact ⟨_, h.set2 (27 + s.text.length) 283 (.int .u8 b.toNat) (.int .i64 ((s.text.length : Int) + 1)) (h.is.addTxt b hc)⟩
    have hk := ((Kept.refl w (· = p)).setCell (p := ⟨p, 27 + s.text.length, none⟩) (fun _ => rfl) (.int .u8 b.toNat)).setCell (p := ⟨p, 283, none⟩) (fun _ => rfl) (.int .i64 ((s.text.length : Int) + 1))
    have HH := Lib.hid (And.intro hs hk)
    obtain ⟨u, hu⟩ := h.is.txtc s.text.length hc
    have c1 : w.cell? ⟨p, 27 + s.text.length, none⟩ = some (.int .u8 u) := (h.c _).trans hu
    have f1 := h.f (27 + s.text.length)
    have c2 : (w.setCell ⟨p, 27 + s.text.length, none⟩ (.int .u8 b.toNat)).cell? ⟨p, 283, none⟩ = some (.int .i64 (s.text.length : Nat)) := by
      rw [cell_of_heap (heap_setCell_same w p (27 + s.text.length) cur _ _ h.at_), gi _ _ _ _ (by omega)]; exact h.is.len
    have f2 : (w.setCell ⟨p, 27 + s.text.length, none⟩ (.int .u8 b.toNat)).frozen? ⟨p, 283, none⟩ = false := by simp [World.frozen?, heap_setCell_same w p (27 + s.text.length) cur _ _ h.at_]
    clear hs hk hu h
    generalize es.addText s b = s' at *
    generalize s.text.length = l at *
    have hci : (l : Int) < 256 := by omega
    have hc0 : (0 : Int) ≤ (l : Int) := by omega
    have hw1 : IntKind.i64.wrap ((l : Int) + 1) = (l : Int) + 1 := by rw [IntKind.wrap_i64]; omega
    go_enter Tryd.func63, Tryd.ntmps63
    go_wp2_with fail
    go_region
    all_goals go_wp2_with fail
    all_goals go_end0
    all_goals exact ⟨rfl, HH.out.1.imp fun _ h => h.drew, HH.out.2.drew⟩
  · have HH : Hid (PsAt w p (es.addText s b) cur) := Lib.hid (by unfold es.addText; rw [if_neg hc]; exact h)
    clear h
    generalize es.addText s b = s' at *
    generalize s.text.length = l at *
    have hci : decide ((l : Int) < 256) = false := decide_eq_false (by omega)
    go_enter Tryd.func63, Tryd.ntmps63
    go_wp2_with fail
    go_end0
    exact ⟨rfl, ⟨_, HH.out⟩, Kept.refl _ _⟩
theorem str_one (w : World) (b : UInt8) : (convert 34 9 (.slice (some ⟨w.heap.size, 0, none⟩) 1 1)).run Tryd.prog (w.alloc (.cells #[.int .u8 b.toNat] 5)).drew = .ok (.string ⟨#[b]⟩) (w.alloc (.cells #[.int .u8 b.toNat] 5)).drew :=
  run_convert_bytes_back (P := Tryd.prog) (w.alloc (.cells #[.int .u8 b.toNat] 5)).drew 34 9 5 ⟨w.heap.size, 0, none⟩ 1 [b] Tryd.underlying34 Tryd.underlying5 Tryd.underlying9 (fun j hj => by
    obtain rfl : j = 0 := by simpa using hj
    rw [addr_add0]
    exact cell_of_heap (heap_alloc_new w _))
set_option maxRecDepth 100000 in
set_option maxHeartbeats 1600000 in
theorem addInter_any (p : Nat) (s : es.St) (cur : Array Value) (b : UInt8) (w : World) (h : PsAt w p s cur) (hil : s.inter.length ≤ 2) :
    Calls Tryd.prog 56 #[.pointer (some ⟨p, 5, none⟩), .int .u8 b.toNat] w fun e w' => e = .returned (.tuple #[]) ∧ (∃ cur', PsAt w' p (es.addInter s b) cur') ∧ Kept w w' (· = p) := by
  have c0 : w.cell? ⟨p, 8, none⟩ = some (.string ⟨s.inter.toArray⟩) := (h.c 8).trans h.is.inter
  have c1 : w.cell? ⟨p, 5, none⟩ = some (.bool s.spoiled) := (h.c 5).trans h.is.spoiled
  have f0 := h.f 8
  have f1 := h.f 5
  by_cases hc : s.inter.length = 2
  · have hs : ∃ cur', PsAt (w.setCell ⟨p, 5, none⟩ (.bool true)) p (es.addInter s b) cur' := by
      unfold es.addInter
      rw [if_pos hc]
      exact ⟨_, h.set 5 (.bool true) h.is.setSpoiled⟩
    have HH := Lib.hid (And.intro hs ((Kept.refl w (· = p)).setCell (p := ⟨p, 5, none⟩) (fun _ => rfl) (.bool true)))
    clear hs h
    go_enter Tryd.func56, Tryd.ntmps56
    go_wp2_with fail
    refine bodyPost_ret (results_none rfl _ _ _) rfl ?_
    exact ⟨rfl, HH.out.1, HH.out.2⟩
  · have hci : ((s.inter.length : Int) == 2) = false := by simp; omega
    have hp := h.lt
    have kc := str_one w b
    have kb : ¬ 9223372036854775807 < s.inter.length + 1 := by omega
    have kb' : s.inter.length < 9223372036854775807 := by omega
    have HH : Hid ((∃ cur', PsAt ((w.setCell ⟨p, 8, none⟩ (.string (⟨s.inter.toArray⟩ ++ ⟨#[b]⟩))).alloc (.cells #[.int .u8 b.toNat] 5)).drew p (es.addInter s b) cur') ∧ Kept w ((w.setCell ⟨p, 8, none⟩ (.string (⟨s.inter.toArray⟩ ++ ⟨#[b]⟩))).alloc (.cells #[.int .u8 b.toNat] 5)).drew (· = p)) := Lib.hid (by
      refine ⟨?_, (((Kept.refl w (· = p)).setCell (p := ⟨p, 8, none⟩) (fun _ => rfl) _).alloc _).drew⟩
      unfold es.addInter
      rw [if_neg hc, show (ByteArray.mk s.inter.toArray ++ ByteArray.mk #[b]) = ByteArray.mk (s.inter ++ [b]).toArray from ByteArray.mk_append_mk s.inter [b]]
      exact ⟨_, ((h.set 8 _ (h.is.setInter _)).alloc _).drew⟩)
    clear h
    go_enter Tryd.func56, Tryd.ntmps56
    go_wp2_with fail
    go_region_with fail
    all_goals go_wp2_with fail
    all_goals go_end0
    all_goals exact ⟨rfl, HH.out⟩
end Go.Proofs.YtgkodjkhhmcnnaaDoor
namespace Go.Proofs.YtgkodjkhhmcnnaaDoor
open Go.RowKit

/-- the numbers' bounds -/
def es.Nums (s : es.St) : Prop := ∀ k, k < s.params.length → -1 ≤ s.params.getD k 0 ∧ s.params.getD k 0 ≤ 9999
theorem es.Nums.next {s : es.St} (h : es.Nums s) : es.Nums (es.nextNumber s) := by
  intro k hk
  unfold es.nextNumber at hk ⊢
  by_cases hc : s.params.length < 17
  · rw [if_pos hc] at hk ⊢
    simp only [List.length_append, List.length_cons, List.length_nil] at hk
    by_cases e : k < s.params.length
    · have := h k e
      simp only [List.getD, List.getElem?_append_left e] at this ⊢
      exact this
    · obtain rfl : k = s.params.length := by omega
      simp [List.getD]
  · rw [if_neg hc] at hk ⊢
    simp only [List.length_set] at hk
    by_cases e : k = 16
    · subst e; simp [List.getD, hk]
    · have := h k hk
      simp only [List.getD, List.getElem?_set_ne (show 16 ≠ k by omega)] at this ⊢
      exact this
theorem es.next_len (s : es.St) (hl : s.params.length ≤ 17) : 1 ≤ (es.nextNumber s).params.length := by
  unfold es.nextNumber
  split
  · simp
  · simp; omega
set_option maxRecDepth 100000 in
set_option maxHeartbeats 1600000 in
theorem addNumber_any (p : Nat) (s : es.St) (cur : Array Value) (b : UInt8) (w : World) (h : PsAt w p s cur) (hb48 : 48 ≤ b.toNat) (hb59 : b.toNat ≤ 59) (hn : es.Nums s) :
    Calls Tryd.prog 74 #[.pointer (some ⟨p, 5, none⟩), .int .u8 b.toNat] w fun e w' => e = .returned (.tuple #[]) ∧ (∃ cur', PsAt w' p (es.addNumber s b) cur') ∧ Kept w w' (· = p) := by
  have c0 : w.cell? ⟨p, 26, none⟩ = some (.int .i64 (s.params.length : Nat)) := (h.c 26).trans h.is.cnt
  have hl := h.is.parl
  by_cases hc : s.params.length = 0
  · have hc' : ((s.params.length : Int) == 0) = true := by simp [hc]
    have HV := Lib.hid (hn.next)
    have HLEN := Lib.hid (es.next_len s hl)
    have HH := Lib.hid h
    clear h hn
    go_enter Tryd.func74, Tryd.ntmps74
    go_wp2_with fail
    refine (nextNumber_any p s cur w HH.out).mono ?_
    rintro e w1 ⟨rfl, ⟨cur1, h1⟩, hk1⟩
    have HK := Lib.hid hk1
    clear hk1 c0
    have hs1 : PsAt w1 p (es.nextNumber s) cur1 := h1
    by_cases hb : b.toNat = 59
    · have hb' : (b.toNat : Int) = 59 := by omega
      have hb2 : ((b.toNat : Int) == 59) = true := by simp [hb']
      go_wp2_with fail
      refine (nextNumber_any p (es.nextNumber s) cur1 w1 hs1).mono ?_
      rintro e w2 ⟨rfl, h2, hk2⟩
      go_wp2_with fail
      refine bodyPost_ret (results_none rfl _ _ _) rfl ?_
      refine ⟨rfl, ?_, HK.out.trans hk2 (fun _ _ h => h)⟩
      unfold es.addNumber
      rw [if_pos hc, if_pos hb]
      exact h2
    · have hb2 : ((b.toNat : Int) == 59) = false := by simp; omega
      obtain ⟨L, hL⟩ : ∃ L, ((es.nextNumber s)).params.length = L + 1 := ⟨((es.nextNumber s)).params.length - 1, by have := HLEN.out; omega⟩
      have hL17 : L < 17 := by have := hs1.is.parl; omega
      have hv := hs1.is.par L (by omega)
      have hvb := HV.out L (by omega)
      have c0 : (w1).cell? ⟨p, 26, none⟩ = some (.int .i64 ((L : Int) + 1)) := by rw [hs1.c 26, hs1.is.cnt, hL]; rfl
      have f1 := hs1.f (9 + L)
      have HS : Hid (∃ cur', PsAt ((w1).setCell ⟨p, 9 + L, none⟩ (.int .i64 (min (max (((es.nextNumber s)).params.getD L 0) 0 * 10 + ((b.toNat : Int) - 48)) 9999))) p (es.addNumber s b) cur') := Lib.hid (by
        unfold es.addNumber
        rw [if_pos hc, if_neg hb]
        unfold es.setLast
        rw [hL]
        exact ⟨_, hs1.set (9 + L) _ (hs1.is.setPar L _ (by omega))⟩)
      have c1 : (w1).cell? ⟨p, 9 + L, none⟩ = some (.int .i64 (((es.nextNumber s)).params.getD L 0)) := (hs1.c _).trans hv
      generalize ((es.nextNumber s)).params.getD L 0 = v at *
      have hLi : (L : Int) < 17 := by omega
      have hL0 : (0 : Int) ≤ (L : Int) := by omega
      have hw1 : IntKind.i64.wrap ((L : Int) + 1 - 1) = (L : Int) := by rw [IntKind.wrap_i64]; omega
      have hw2 : IntKind.i64.wrap (max v 0 * 10) = max v 0 * 10 := by rw [IntKind.wrap_i64]; omega
      have hw3 : IntKind.u8.wrap ((b.toNat : Int) - 48) = (b.toNat : Int) - 48 := by rw [IntKind.wrap_u8]; omega
      have hw4 : IntKind.i64.wrap ((b.toNat : Int) - 48) = (b.toNat : Int) - 48 := by rw [IntKind.wrap_i64]; omega
      have hw5 : IntKind.i64.wrap (max v 0 * 10 + ((b.toNat : Int) - 48)) = max v 0 * 10 + ((b.toNat : Int) - 48) := by rw [IntKind.wrap_i64]; omega
      clear hs1 hv hvb h1
      go_wp2_with fail
      go_region
      all_goals go_wp2_with fail
      all_goals go_end0
      all_goals refine ⟨rfl, HS.out.imp fun _ h => ⟨h.at_, h.is⟩, ?_⟩
      all_goals exact HK.out.trans (((Kept.refl _ (· = p)).setCell (p := ⟨p, 9 + L, none⟩) (fun _ => rfl) _).drew) (fun _ _ h => h)

  · have hc' : ((s.params.length : Int) == 0) = false := by simp; intro h; exact hc (by rw [h]; rfl)
    have HV := Lib.hid hn
    have HLEN := Lib.hid (show 1 ≤ s.params.length by omega)
    have h1 := h
    have HK := Lib.hid (Kept.refl w (· = p))
    clear h hn
    go_enter Tryd.func74, Tryd.ntmps74
    have hs1 : PsAt w p s cur := h1
    by_cases hb : b.toNat = 59
    · have hb' : (b.toNat : Int) = 59 := by omega
      have hb2 : ((b.toNat : Int) == 59) = true := by simp [hb']
      go_wp2_with fail
      refine (nextNumber_any p s cur w hs1).mono ?_
      rintro e w2 ⟨rfl, h2, hk2⟩
      go_wp2_with fail
      refine bodyPost_ret (results_none rfl _ _ _) rfl ?_
      refine ⟨rfl, ?_, HK.out.trans hk2 (fun _ _ h => h)⟩
      unfold es.addNumber
      rw [if_neg hc, if_pos hb]
      exact h2
    · have hb2 : ((b.toNat : Int) == 59) = false := by simp; omega
      obtain ⟨L, hL⟩ : ∃ L, (s).params.length = L + 1 := ⟨(s).params.length - 1, by have := HLEN.out; omega⟩
      have hL17 : L < 17 := by have := hs1.is.parl; omega
      have hv := hs1.is.par L (by omega)
      have hvb := HV.out L (by omega)
      clear c0
      have c0 : (w).cell? ⟨p, 26, none⟩ = some (.int .i64 ((L : Int) + 1)) := by rw [hs1.c 26, hs1.is.cnt, hL]; rfl
      have f1 := hs1.f (9 + L)
      have HS : Hid (∃ cur', PsAt ((w).setCell ⟨p, 9 + L, none⟩ (.int .i64 (min (max ((s).params.getD L 0) 0 * 10 + ((b.toNat : Int) - 48)) 9999))) p (es.addNumber s b) cur') := Lib.hid (by
        unfold es.addNumber
        rw [if_neg hc, if_neg hb]
        unfold es.setLast
        rw [hL]
        exact ⟨_, hs1.set (9 + L) _ (hs1.is.setPar L _ (by omega))⟩)
      have c1 : (w).cell? ⟨p, 9 + L, none⟩ = some (.int .i64 ((s).params.getD L 0)) := (hs1.c _).trans hv
      generalize (s).params.getD L 0 = v at *
      have hLi : (L : Int) < 17 := by omega
      have hL0 : (0 : Int) ≤ (L : Int) := by omega
      have hw1 : IntKind.i64.wrap ((L : Int) + 1 - 1) = (L : Int) := by rw [IntKind.wrap_i64]; omega
      have hw2 : IntKind.i64.wrap (max v 0 * 10) = max v 0 * 10 := by rw [IntKind.wrap_i64]; omega
      have hw3 : IntKind.u8.wrap ((b.toNat : Int) - 48) = (b.toNat : Int) - 48 := by rw [IntKind.wrap_u8]; omega
      have hw4 : IntKind.i64.wrap ((b.toNat : Int) - 48) = (b.toNat : Int) - 48 := by rw [IntKind.wrap_i64]; omega
      have hw5 : IntKind.i64.wrap (max v 0 * 10 + ((b.toNat : Int) - 48)) = max v 0 * 10 + ((b.toNat : Int) - 48) := by rw [IntKind.wrap_i64]; omega
      clear hs1 hv hvb h1
      go_wp2_with fail
      go_region
      all_goals go_wp2_with fail
      all_goals go_end0
      all_goals refine ⟨rfl, HS.out.imp fun _ h => ⟨h.at_, h.is⟩, ?_⟩
      all_goals exact HK.out.trans (((Kept.refl _ (· = p)).setCell (p := ⟨p, 9 + L, none⟩) (fun _ => rfl) _).drew) (fun _ _ h => h)
end Go.Proofs.YtgkodjkhhmcnnaaDoor
namespace Go.Proofs.YtgkodjkhhmcnnaaDoor
open Go.RowKit

set_option maxRecDepth 100000 in
set_option maxHeartbeats 1600000 in
theorem addParam_any (p : Nat) (s : es.St) (cur : Array Value) (b : UInt8) (w : World) (h : PsAt w p s cur) (hb48 : 48 ≤ b.toNat) (hb64 : b.toNat < 64) (hn : es.Nums s) :
    Calls Tryd.prog 60 #[.pointer (some ⟨p, 5, none⟩), .int .u8 b.toNat] w fun e w' => e = .returned (.tuple #[]) ∧ (∃ cur', PsAt w' p (es.addParam s b) cur') ∧ Kept w w' (· = p) := by
  have c1 : w.cell? ⟨p, 5, none⟩ = some (.bool s.spoiled) := (h.c 5).trans h.is.spoiled
  have c2 : w.cell? ⟨p, 6, none⟩ = some (.int .u8 s.priv) := (h.c 6).trans h.is.priv
  have c3 : w.cell? ⟨p, 26, none⟩ = some (.int .i64 (s.params.length : Nat)) := (h.c 26).trans h.is.cnt
  have f1 := h.f 5
  have f2 := h.f 6
  have HSP : Hid (∃ cur', PsAt (w.setCell ⟨p, 5, none⟩ (.bool true)) p { s with spoiled := true } cur') := Lib.hid ⟨_, h.set 5 (.bool true) h.is.setSpoiled⟩
  have HPR : Hid (∃ cur', PsAt (w.setCell ⟨p, 6, none⟩ (.int .u8 b.toNat)) p { s with priv := b.toNat } cur') := Lib.hid ⟨_, h.set 6 (.int .u8 b.toNat) (h.is.setPriv b.toNat)⟩
  have HK := Lib.hid (fun i v => (Kept.refl w (· = p)).setCell (p := ⟨p, i, none⟩) (fun _ => rfl) v)
  cases hi : s.inter with
  | cons x l =>
    have c0 : w.cell? ⟨p, 8, none⟩ = some (.string ⟨(x :: l).toArray⟩) := by rw [h.c 8, h.is.inter, hi]
    have e : es.addParam s b = { s with spoiled := true } := by unfold es.addParam; rw [if_pos (by rw [hi]; simp)]
    rw [e]
    clear h hn
    go_enter Tryd.func60, Tryd.ntmps60
    go_wp2_with fail
    go_end0
    exact ⟨rfl, HSP.out, HK.out 5 _⟩
  | nil =>
    have c0 : w.cell? ⟨p, 8, none⟩ = some (.string ⟨#[]⟩) := by rw [h.c 8, h.is.inter, hi]
    have hi' : ¬ (s.inter ≠ []) := by rw [hi]; simp
    by_cases h58 : b.toNat = 58
    · have hb58 : ((b.toNat : Int) == 58) = true := by simp; omega
      have e : es.addParam s b = { s with spoiled := true } := by unfold es.addParam; rw [if_pos (.inr h58)]
      rw [e]
      clear h hn
      go_enter Tryd.func60, Tryd.ntmps60
      go_wp2_with fail
      go_end0
      exact ⟨rfl, HSP.out, HK.out 5 _⟩
    · have hb58 : ((b.toNat : Int) == 58) = false := by simp; omega
      have hor : ¬ (s.inter ≠ [] ∨ b.toNat = 58) := fun h => h.elim hi' h58
      by_cases h59 : b.toNat ≤ 59
      · have hb59 : (b.toNat : Int) ≤ 59 := by omega
        have HN := Lib.hid (addNumber_any p s cur b w h hb48 h59 hn)
        have e : es.addParam s b = es.addNumber s b := by unfold es.addParam; rw [if_neg hor, if_pos h59]
        rw [e]
        clear h hn e
        go_enter Tryd.func60, Tryd.ntmps60
        go_wp2_with fail
        refine HN.out.mono ?_
        rintro e w1 ⟨rfl, h1, hk1⟩
        go_wp2_with fail
        go_end0
        exact ⟨rfl, h1, hk1⟩
      · have hb59 : decide ((b.toNat : Int) ≤ 59) = false := decide_eq_false (by omega)
        by_cases hD : s.params.length = 0 ∧ s.priv = 0 ∧ s.spoiled = false
        · have e : es.addParam s b = { s with priv := b.toNat } := by unfold es.addParam; rw [if_neg hor, if_neg h59, if_pos hD]
          rw [e]
          obtain ⟨d1, d2, d3⟩ := hD
          have c1' : w.cell? ⟨p, 5, none⟩ = some (.bool false) := by rw [c1, d3]
          have c2' : w.cell? ⟨p, 6, none⟩ = some (.int .u8 0) := by rw [c2, d2]; rfl
          have c3' : w.cell? ⟨p, 26, none⟩ = some (.int .i64 0) := by rw [c3, d1]; rfl
          clear h hn c1 c2 c3
          go_enter Tryd.func60, Tryd.ntmps60
          go_wp2_with fail
          go_end0
          exact ⟨rfl, HPR.out, HK.out 6 _⟩
        · have e : es.addParam s b = { s with spoiled := true } := by unfold es.addParam; rw [if_neg hor, if_neg h59, if_neg hD]
          rw [e]
          clear h hn
          by_cases d1 : s.params.length = 0
          · have c3' : w.cell? ⟨p, 26, none⟩ = some (.int .i64 0) := by rw [c3, d1]; rfl
            by_cases d2 : s.priv = 0
            · have c2' : w.cell? ⟨p, 6, none⟩ = some (.int .u8 0) := by rw [c2, d2]; rfl
              have c1' : w.cell? ⟨p, 5, none⟩ = some (.bool true) := by rw [c1]; cases hs : s.spoiled <;> simp_all
              clear c1 c2 c3
              go_enter Tryd.func60, Tryd.ntmps60
              go_wp2_with fail
              go_end0
              exact ⟨rfl, HSP.out, HK.out 5 _⟩
            · have dd : ((s.priv : Int) == 0) = false := by simp; intro h; exact d2 (by omega)
              clear c3
              go_enter Tryd.func60, Tryd.ntmps60
              go_wp2_with fail
              go_end0
              exact ⟨rfl, HSP.out, HK.out 5 _⟩
          · have dd : ((s.params.length : Int) == 0) = false := by simp; intro h; exact d1 (by rw [h]; rfl)
            go_enter Tryd.func60, Tryd.ntmps60
            go_wp2_with fail
            go_end0
            exact ⟨rfl, HSP.out, HK.out 5 _⟩
end Go.Proofs.YtgkodjkhhmcnnaaDoor
