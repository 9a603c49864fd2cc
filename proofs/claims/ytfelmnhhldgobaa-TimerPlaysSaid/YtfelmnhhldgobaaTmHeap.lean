/- What container/heap does with a clock's queue. -/
import Derived.Test.YtfelmnhhldgobaaTmQ
namespace Go.Proofs.Ytfelmnhhldgobaa
open Go.RowKit
/-- a clock's box, and its queue -/
structure HQ (w : World) (c g n cap : Nat) (now last : Int) (l : List tm.T) : Prop where
  ck : w.heap[c]? = some (.cells #[.int .i64 now, .int .i64 last, .slice (some ⟨g, 0, none⟩) n cap] 65 (0, 0))
  q : QIn w g n cap l
  ne : c ≠ g
section
variable {w w' : World} {c g n cap : Nat} {now last : Int} {l : List tm.T}
theorem HQ.keep (h : HQ w c g n cap now last l) (hc : w'.heap[c]? = w.heap[c]?) (hg : w'.heap[g]? = w.heap[g]?) : HQ w' c g n cap now last l := ⟨hc.trans h.ck, h.q.keep hg, h.ne⟩
theorem HQ.below (h : HQ w c g n cap now last l) (hb : Below w.heap.size w w') : HQ w' c g n cap now last l := h.keep (hb.block _ (heap_lt h.ck)) (hb.block _ h.q.lt)
theorem HQ.cell (h : HQ w c g n cap now last l) : w.cell? ⟨c, 0, none⟩ = some (.int .i64 now) ∧ w.cell? ⟨c, 1, none⟩ = some (.int .i64 last) ∧ w.cell? ⟨c, 2, none⟩ = some (.slice (some ⟨g, 0, none⟩) n cap) := ⟨(cell_of_heap h.ck).trans rfl, (cell_of_heap h.ck).trans rfl, (cell_of_heap h.ck).trans rfl⟩
end
theorem wrap_q (nm : String) (c : Nat) (w : World) : (Builtin.ssaWrapNilChk_ #[68] 68 #[.pointer (some ⟨c, 2, none⟩), strVal "", strVal nm]).run Try.prog w = .ok (.pointer (some ⟨c, 2, none⟩)) w := by kernel_rfl
theorem recv_q {c : Nat} {w : World} {V : Value} (nm : String) (h : w.cell? ⟨c, 2, none⟩ = some V) : (receiverAt 68 (.val (.pointer (some ⟨c, 2, none⟩))) false (some nm)).run Try.prog w = .ok V w := by
  have ha := Try.isAgg63
  simp [receiverAt, run_underlying Try.underlying68, wrap_q, Place.get, asAddr, loadVar, ha, Result.andThen]
  go_simp
  skip
theorem meth_less {c : Nat} {w : World} {V : Value} (h : w.cell? ⟨c, 2, none⟩ = some V) : (method 232 68 (.pointer (some ⟨c, 2, none⟩)) "Less").run Try.prog w = .ok (79, V) w := by
  have e : (method 232 68 (.pointer (some ⟨c, 2, none⟩)) "Less").run Try.prog w = (do let r ← receiverAt 68 (.val (.pointer (some ⟨c, 2, none⟩))) false (some "Less"); pure (79, r) : Sem (FuncId × Value)).run Try.prog w := by kernel_rfl
  rw [e]
  simp [recv_q "Less" h, Result.andThen]
theorem meth_swap {c : Nat} {w : World} {V : Value} (h : w.cell? ⟨c, 2, none⟩ = some V) : (method 232 68 (.pointer (some ⟨c, 2, none⟩)) "Swap").run Try.prog w = .ok (80, V) w := by
  have e : (method 232 68 (.pointer (some ⟨c, 2, none⟩)) "Swap").run Try.prog w = (do let r ← receiverAt 68 (.val (.pointer (some ⟨c, 2, none⟩))) false (some "Swap"); pure (80, r) : Sem (FuncId × Value)).run Try.prog w := by kernel_rfl
  rw [e]
  simp [recv_q "Swap" h, Result.andThen]
theorem meth_len {c : Nat} {w : World} {V : Value} (h : w.cell? ⟨c, 2, none⟩ = some V) : (method 232 68 (.pointer (some ⟨c, 2, none⟩)) "Len").run Try.prog w = .ok (78, V) w := by
  have e : (method 232 68 (.pointer (some ⟨c, 2, none⟩)) "Len").run Try.prog w = (do let r ← receiverAt 68 (.val (.pointer (some ⟨c, 2, none⟩))) false (some "Len"); pure (78, r) : Sem (FuncId × Value)).run Try.prog w := by kernel_rfl
  rw [e]
  simp [recv_q "Len" h, Result.andThen]
theorem meth_push (c : Nat) (w : World) : (method 232 68 (.pointer (some ⟨c, 2, none⟩)) "Push").run Try.prog w = .ok (82, .pointer (some ⟨c, 2, none⟩)) w := by kernel_rfl
theorem meth_pop (c : Nat) (w : World) : (method 232 68 (.pointer (some ⟨c, 2, none⟩)) "Pop").run Try.prog w = .ok (81, .pointer (some ⟨c, 2, none⟩)) w := by kernel_rfl
theorem HQ.swap {w w' : World} {c g n cap : Nat} {now last : Int} {l : List tm.T} (h : HQ w c g n cap now last l) {i j : Nat} (hq : QIn w' g n cap (tm.sw l i j)) (hf : Fr (fun k => k = g) w w') : HQ w' c g n cap now last (tm.sw l i j) := ⟨(hf.block _ (heap_lt h.ck) h.ne).trans h.ck, hq, h.ne⟩
set_option maxRecDepth 100000 in
set_option maxHeartbeats 3200000 in
theorem up_any (c g n cap : Nat) (now last : Int) (j f : Nat) (l : List tm.T) (w : World) (h : HQ w c g n cap now last l) (hj : j < n) (hf : j < f) : Calls Try.prog 37 #[.iface 68 (.pointer (some ⟨c, 2, none⟩)), .int .i64 j] w fun e w' => e = .returned (.tuple #[]) ∧ HQ w' c g n cap now last (tm.up f l j) ∧ Fr (fun k => k = g) w w' := by
  obtain ⟨R, hR⟩ : ∃ R, tm.up f l j = R := ⟨_, rfl⟩
  rw [hR]
  have hnn := Nat.le_trans h.q.nc h.q.cm
  have HH := Lib.hid (And.intro h (And.intro (Fr.refl (fun k => k = g) w) hR))
  clear h hR
  go_enter Try.func37, Try.ntmps37
  go_wp2_with fail
  go_loopg [1] f (fun gg s1 wr => ∃ (i f' : Nat) (m : List tm.T), s1 = .int .i64 i ∧ i < n ∧ i < f' ∧ f' ≤ gg ∧ Hid (HQ wr c g n cap now last m ∧ Fr (fun k => k = g) w wr ∧ tm.up f' m i = R))
  case atStart => exact ⟨j, f, l, rfl, hj, hf, Nat.le_refl _, HH⟩
  case round =>
    clear HH hj hf
    obtain ⟨i, f', m, rfl, hi, hif, hgg, HT⟩ := hrel
    obtain ⟨k, rfl⟩ : ∃ k, f' = k + 1 := ⟨f' - 1, by omega⟩
    by_cases h0 : i = 0
    · subst h0
      have HR : Hid (m = R) := Lib.hid (by have := HT.out.2.2; unfold tm.up at this; rwa [if_pos (by rfl)] at this)
      have e1 : wrap64 (((0 : Nat) : Int) - 1) = -1 := by decide +kernel
      have e2 : wrap64 ((-1 : Int).tdiv 2) = 0 := by decide +kernel
      go_wp2_with fail
      go_end0
      exact ⟨rfl, HR.out ▸ HT.out.1, HT.out.2.1⟩
    · obtain ⟨p, hp⟩ : ∃ p, (i - 1) / 2 = p := ⟨_, rfl⟩
      have hpi : p < i := by omega
      have e1 : wrap64 ((i : Int) - 1) = (i : Int) - 1 := by unfold wrap64; omega
      have e2 : wrap64 (((i : Int) - 1).tdiv 2) = (p : Int) := by rw [Int.tdiv_eq_ediv_of_nonneg (by omega)]; unfold wrap64; omega
      have e3 : ((i : Int) - 1) / 2 = (p : Int) := by omega
      have hlt : (p : Int) < (i : Int) := by omega
      have hpe : ((p : Int) == (i : Int)) = false := beq_eq_false_iff_ne.2 (by omega)
      obtain ⟨c0, c1, c2⟩ := HT.out.1.cell
      have ml := meth_less c2
      have HL := Lib.hid (less_any g n cap i p m wr HT.out.1.q hi (by omega))
      have HU : Hid ((if tm.lt (tm.ix m i) (tm.ix m p) = true then tm.up k (tm.sw m p i) p else m) = R) := Lib.hid (by have := HT.out.2.2; unfold tm.up at this; rwa [hp, if_neg (by omega)] at this)
      cases hlt2 : tm.lt (tm.ix m i) (tm.ix m p) with
      | false =>
        rw [hlt2] at HL HU
        go_wp2_with fail
        refine HL.out.mono ?_
        rintro e w2 ⟨rfl, hb⟩
        have HZ := Lib.hid (And.intro (HT.out.1.below hb) (HT.out.2.1.below hb))
        clear hb
        go_wp2_with fail
        go_end0
        exact ⟨rfl, (show m = R from HU.out) ▸ HZ.out.1, HZ.out.2⟩
      | true =>
        rw [hlt2] at HL HU
        go_wp2_with fail
        refine HL.out.mono ?_
        rintro e w2 ⟨rfl, hb⟩
        have HZ := Lib.hid (And.intro (HT.out.1.below hb) (HT.out.2.1.below hb))
        have c2' := HZ.out.1.cell.2.2
        have ms := meth_swap c2'
        have HS := Lib.hid (swap_any g n cap p i m w2 HZ.out.1.q (by omega) hi)
        clear hb ml c0 c1 c2
        go_wp2_with fail
        refine HS.out.mono ?_
        rintro e w3 ⟨rfl, hq, hfr⟩
        have HY := Lib.hid (And.intro (HZ.out.1.swap hq hfr) (HZ.out.2.then hfr))
        clear hq hfr ms c2' HS HZ
        go_wp2_with fail
        go_roundg k
        case measure => omega
        case rel => exact ⟨p, k, _, rfl, by omega, by omega, Nat.le_refl _, Lib.hid ⟨HY.out.1, HY.out.2, (show tm.up k (tm.sw m p i) p = R from HU.out)⟩⟩
end Go.Proofs.Ytfelmnhhldgobaa
