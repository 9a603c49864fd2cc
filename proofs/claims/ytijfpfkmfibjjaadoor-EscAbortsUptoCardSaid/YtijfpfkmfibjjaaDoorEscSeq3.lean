/- addNumber, addParam. -/
import Derived.Test.YtijfpfkmfibjjaaDoorEscSeq2
namespace Go.Proofs.YtijfpfkmfibjjaaDoor
open Go.RowKit

/-- the numbers' bounds -/
def es.Nums (s : es.St) : Prop := ∀ k, k < s.params.length → -1 ≤ s.params.getD k 0 ∧ s.params.getD k 0 ≤ 9999
theorem es.Nums.next {s : es.St} (h : es.Nums s) : es.Nums (es.nextNumber s) := by
  intro k hk
  unfold es.nextNumber at hk ⊢
  by_cases hc : s.params.length < 17
  · rw [if_pos hc] at hk ⊢
    simp only [List.length_append, List.length_cons, List.length_nil] at hk
    by_cases e : k < s.params.length
    · have := h k e
      simp only [List.getD, List.getElem?_append_left e] at this ⊢
      exact this
    · obtain rfl : k = s.params.length := by omega
      simp [List.getD]
  · rw [if_neg hc] at hk ⊢
    simp only [List.length_set] at hk
    by_cases e : k = 16
    · subst e; simp [List.getD, hk]
    · have := h k hk
      simp only [List.getD, List.getElem?_set_ne (show 16 ≠ k by omega)] at this ⊢
      exact this
theorem es.next_len (s : es.St) (hl : s.params.length ≤ 17) : 1 ≤ (es.nextNumber s).params.length := by
  unfold es.nextNumber
  split
  · simp
  · simp; omega
set_option maxRecDepth 100000 in
set_option maxHeartbeats 1600000 in
theorem addNumber_any (p : Nat) (s : es.St) (cur : Array Value) (b : UInt8) (w : World) (h : PsAt w p s cur) (hb48 : 48 ≤ b.toNat) (hb59 : b.toNat ≤ 59) (hn : es.Nums s) :
    Calls Tryd.prog 58 #[.pointer (some ⟨p, 5, none⟩), .int .u8 b.toNat] w fun e w' => e = .returned (.tuple #[]) ∧ (∃ cur', PsAt w' p (es.addNumber s b) cur') ∧ Kept w w' (· = p) := by
  have c0 : w.cell? ⟨p, 26, none⟩ = some (.int .i64 (s.params.length : Nat)) := (h.c 26).trans h.is.cnt
  have hl := h.is.parl
  by_cases hc : s.params.length = 0
  · have hc' : ((s.params.length : Int) == 0) = true := by simp [hc]
    have HV := Lib.hid (hn.next)
    have HLEN := Lib.hid (es.next_len s hl)
    have HH := Lib.hid h
    clear h hn
    go_enter Tryd.func58, Tryd.ntmps58
    go_wp2_with fail
    refine (nextNumber_any p s cur w HH.out).mono ?_
    rintro e w1 ⟨rfl, ⟨cur1, h1⟩, hk1⟩
    have HK := Lib.hid hk1
    clear hk1 c0
    have hs1 : PsAt w1 p (es.nextNumber s) cur1 := h1
    by_cases hb : b.toNat = 59
    · have hb' : (b.toNat : Int) = 59 := by omega
      have hb2 : ((b.toNat : Int) == 59) = true := by simp [hb']
      go_wp2_with fail
      refine (nextNumber_any p (es.nextNumber s) cur1 w1 hs1).mono ?_
      rintro e w2 ⟨rfl, h2, hk2⟩
      go_wp2_with fail
      refine bodyPost_ret (results_none rfl _ _ _) rfl ?_
      refine ⟨rfl, ?_, HK.out.trans hk2 (fun _ _ h => h)⟩
      unfold es.addNumber
      rw [if_pos hc, if_pos hb]
      exact h2
    · have hb2 : ((b.toNat : Int) == 59) = false := by simp; omega
      obtain ⟨L, hL⟩ : ∃ L, ((es.nextNumber s)).params.length = L + 1 := ⟨((es.nextNumber s)).params.length - 1, by have := HLEN.out; omega⟩
      have hL17 : L < 17 := by have := hs1.is.parl; omega
      have hv := hs1.is.par L (by omega)
      have hvb := HV.out L (by omega)
      have c0 : (w1).cell? ⟨p, 26, none⟩ = some (.int .i64 ((L : Int) + 1)) := by rw [hs1.c 26, hs1.is.cnt, hL]; rfl
      have f1 := hs1.f (9 + L)
      have HS : Hid (∃ cur', PsAt ((w1).setCell ⟨p, 9 + L, none⟩ (.int .i64 (min (max (((es.nextNumber s)).params.getD L 0) 0 * 10 + ((b.toNat : Int) - 48)) 9999))) p (es.addNumber s b) cur') := Lib.hid (by
        unfold es.addNumber
        rw [if_pos hc, if_neg hb]
        unfold es.setLast
        rw [hL]
        exact ⟨_, hs1.set (9 + L) _ (hs1.is.setPar L _ (by omega))⟩)
      have c1 : (w1).cell? ⟨p, 9 + L, none⟩ = some (.int .i64 (((es.nextNumber s)).params.getD L 0)) := (hs1.c _).trans hv
      generalize ((es.nextNumber s)).params.getD L 0 = v at *
      have hLi : (L : Int) < 17 := by omega
      have hL0 : (0 : Int) ≤ (L : Int) := by omega
      have hw1 : IntKind.i64.wrap ((L : Int) + 1 - 1) = (L : Int) := by rw [IntKind.wrap_i64]; omega
      have hw2 : IntKind.i64.wrap (max v 0 * 10) = max v 0 * 10 := by rw [IntKind.wrap_i64]; omega
      have hw3 : IntKind.u8.wrap ((b.toNat : Int) - 48) = (b.toNat : Int) - 48 := by rw [IntKind.wrap_u8]; omega
      have hw4 : IntKind.i64.wrap ((b.toNat : Int) - 48) = (b.toNat : Int) - 48 := by rw [IntKind.wrap_i64]; omega
      have hw5 : IntKind.i64.wrap (max v 0 * 10 + ((b.toNat : Int) - 48)) = max v 0 * 10 + ((b.toNat : Int) - 48) := by rw [IntKind.wrap_i64]; omega
      clear hs1 hv hvb h1
      go_wp2_with fail
      go_region
      all_goals go_wp2_with fail
      all_goals go_end0
      all_goals refine ⟨rfl, HS.out.imp fun _ h => ⟨h.at_, h.is⟩, ?_⟩
      all_goals exact HK.out.trans (((Kept.refl _ (· = p)).setCell (p := ⟨p, 9 + L, none⟩) (fun _ => rfl) _).drew) (fun _ _ h => h)

  · have hc' : ((s.params.length : Int) == 0) = false := by simp; intro h; exact hc (by rw [h]; rfl)
    have HV := Lib.hid hn
    have HLEN := Lib.hid (show 1 ≤ s.params.length by omega)
    have h1 := h
    have HK := Lib.hid (Kept.refl w (· = p))
    clear h hn
    go_enter Tryd.func58, Tryd.ntmps58
    have hs1 : PsAt w p s cur := h1
    by_cases hb : b.toNat = 59
    · have hb' : (b.toNat : Int) = 59 := by omega
      have hb2 : ((b.toNat : Int) == 59) = true := by simp [hb']
      go_wp2_with fail
      refine (nextNumber_any p s cur w hs1).mono ?_
      rintro e w2 ⟨rfl, h2, hk2⟩
      go_wp2_with fail
      refine bodyPost_ret (results_none rfl _ _ _) rfl ?_
      refine ⟨rfl, ?_, HK.out.trans hk2 (fun _ _ h => h)⟩
      unfold es.addNumber
      rw [if_neg hc, if_pos hb]
      exact h2
    · have hb2 : ((b.toNat : Int) == 59) = false := by simp; omega
      obtain ⟨L, hL⟩ : ∃ L, (s).params.length = L + 1 := ⟨(s).params.length - 1, by have := HLEN.out; omega⟩
      have hL17 : L < 17 := by have := hs1.is.parl; omega
      have hv := hs1.is.par L (by omega)
      have hvb := HV.out L (by omega)
      clear c0
      have c0 : (w).cell? ⟨p, 26, none⟩ = some (.int .i64 ((L : Int) + 1)) := by rw [hs1.c 26, hs1.is.cnt, hL]; rfl
      have f1 := hs1.f (9 + L)
      have HS : Hid (∃ cur', PsAt ((w).setCell ⟨p, 9 + L, none⟩ (.int .i64 (min (max ((s).params.getD L 0) 0 * 10 + ((b.toNat : Int) - 48)) 9999))) p (es.addNumber s b) cur') := Lib.hid (by
        unfold es.addNumber
        rw [if_neg hc, if_neg hb]
        unfold es.setLast
        rw [hL]
        exact ⟨_, hs1.set (9 + L) _ (hs1.is.setPar L _ (by omega))⟩)
      have c1 : (w).cell? ⟨p, 9 + L, none⟩ = some (.int .i64 ((s).params.getD L 0)) := (hs1.c _).trans hv
      generalize (s).params.getD L 0 = v at *
      have hLi : (L : Int) < 17 := by omega
      have hL0 : (0 : Int) ≤ (L : Int) := by omega
      have hw1 : IntKind.i64.wrap ((L : Int) + 1 - 1) = (L : Int) := by rw [IntKind.wrap_i64]; omega
      have hw2 : IntKind.i64.wrap (max v 0 * 10) = max v 0 * 10 := by rw [IntKind.wrap_i64]; omega
      have hw3 : IntKind.u8.wrap ((b.toNat : Int) - 48) = (b.toNat : Int) - 48 := by rw [IntKind.wrap_u8]; omega
      have hw4 : IntKind.i64.wrap ((b.toNat : Int) - 48) = (b.toNat : Int) - 48 := by rw [IntKind.wrap_i64]; omega
      have hw5 : IntKind.i64.wrap (max v 0 * 10 + ((b.toNat : Int) - 48)) = max v 0 * 10 + ((b.toNat : Int) - 48) := by rw [IntKind.wrap_i64]; omega
      clear hs1 hv hvb h1
      go_wp2_with fail
      go_region
      all_goals go_wp2_with fail
      all_goals go_end0
      all_goals refine ⟨rfl, HS.out.imp fun _ h => ⟨h.at_, h.is⟩, ?_⟩
      all_goals exact HK.out.trans (((Kept.refl _ (· = p)).setCell (p := ⟨p, 9 + L, none⟩) (fun _ => rfl) _).drew) (fun _ _ h => h)
end Go.Proofs.YtijfpfkmfibjjaaDoor
