/- Tokens. -/
import Derived.Test.YthmiaamjbokljaaGreatDoorTkNext
namespace Go.Proofs.YthmiaamjbokljaaGreatDoor
open Go.RowKit
theorem tk.span_pos {p : UInt8 → Bool} {c : UInt8} {l : List UInt8} (h : p c = true) : 1 ≤ tk.span p (c :: l) := by
  unfold tk.span
  rw [List.takeWhile_cons, if_pos h]
  simp
/-- each reading goes on, or fails; a token takes a byte at least -/
theorem tk.next_prog (s : List UInt8) (r : tk.St) (h : r.at_ < s.length) (hc : r.code = 0) (ht : r.toks.length ≤ r.at_) : ((tk.next s r).code ≠ 0 ∨ r.at_ < (tk.next s r).at_ ∧ (tk.next s r).code = 0) ∧ (tk.next s r).toks.length ≤ (tk.next s r).at_ := by
  have hadd : ∀ (t : tk.Tok) (n : Nat), 1 ≤ n → ((tk.add r t n).code ≠ 0 ∨ r.at_ < (tk.add r t n).at_ ∧ (tk.add r t n).code = 0) ∧ (tk.add r t n).toks.length ≤ (tk.add r t n).at_ := fun t n hn => by
    unfold tk.add
    refine ⟨.inr ⟨by show r.at_ < r.at_ + n; omega, hc⟩, ?_⟩
    show (r.toks ++ [_]).length ≤ r.at_ + n
    rw [List.length_append, List.length_singleton]; omega
  have hfail : ∀ (c : Nat) (x : Int), c ≠ 0 → ((tk.fail r c x).code ≠ 0 ∨ r.at_ < (tk.fail r c x).at_ ∧ (tk.fail r c x).code = 0) ∧ (tk.fail r c x).toks.length ≤ (tk.fail r c x).at_ := fun c x hx => ⟨.inl hx, ht⟩
  have hgo : ∀ n : Nat, 1 ≤ n → (({ r with at_ := r.at_ + n } : tk.St).code ≠ 0 ∨ r.at_ < ({ r with at_ := r.at_ + n } : tk.St).at_ ∧ ({ r with at_ := r.at_ + n } : tk.St).code = 0) ∧ ({ r with at_ := r.at_ + n } : tk.St).toks.length ≤ ({ r with at_ := r.at_ + n } : tk.St).at_ := fun n hn => ⟨.inr ⟨by show r.at_ < r.at_ + n; omega, hc⟩, by show r.toks.length ≤ r.at_ + n; omega⟩
  unfold tk.next
  rw [tk.drop_cons s r.at_ h]
  generalize s[r.at_] = c
  generalize s.drop (r.at_ + 1) = l
  dsimp only
  split
  · rename_i hb
    exact hgo _ (tk.span_pos hb)
  split
  · rename_i hb
    refine hgo _ (tk.span_pos ?_)
    unfold Lib.hasPrefix at hb
    simp only [List.isPrefixOf, Bool.and_eq_true] at hb
    have h1 : (47 : UInt8) = c := by simpa using hb.1
    subst h1
    decide
  split
  · unfold tk.remark
    split
    · exact hfail _ _ (by decide)
    · exact hgo _ (by omega)
  split
  · exact hadd _ _ (by simp)
  split
  · exact hadd _ _ (by simp)
  split
  · unfold tk.quote
    split
    · exact hfail _ _ (by decide)
    · dsimp only
      split
      · exact hadd _ _ (by omega)
      · exact hfail _ _ (by assumption)
  split
  · rename_i hi
    unfold tk.integer
    dsimp only
    split
    · split
      · exact hadd _ _ hi
      · exact hfail _ _ (by decide)
    · exact hfail _ _ (by decide)
  split
  · rename_i hw
    refine hadd _ _ ?_
    exact tk.span_pos hw
  · exact hfail _ _ (by decide)
theorem RdAt.new {w : World} {s : List UInt8} : RdAt (w.alloc (.cells #[str s, .int .i64 0, .slice none 0 0, .int .i64 0, .int .i64 0] 79)) w.heap.size s {} (.slice none 0 0) :=
  ⟨heap_alloc_new _ _, World.ownsRow_nil _ _ _ _⟩
theorem tk.run_stop (s : List UInt8) (f : Nat) (r : tk.St) (h : ¬ (r.at_ < s.length ∧ r.code = 0)) : tk.run s f r = r := by
  cases f with
  | zero => rfl
  | succ f => unfold tk.run; rw [if_neg h]
/-- where Tokens stands -/
structure TS (w wr : World) (s : List UInt8) (r : tk.St) (V : Value) (f : Nat) (R : tk.St) : Prop where
  rd : RdAt wr (w.heap.size + 1) s r V
  fl : wr.heap[w.heap.size]? = some (.cells #[.int .i64 0, .int .i64 0] 30 (0, 0))
  bel : Below w.heap.size w wr
  run : tk.run s f r = R
  few : r.toks.length ≤ r.at_
  left : r.code = 0 → s.length - r.at_ ≤ f
theorem TS.fault {w wr : World} {s : List UInt8} {r : tk.St} {V : Value} {f : Nat} {R : tk.St} (h : TS w wr s r V f R) (c x : Int) : ((wr.setCell ⟨w.heap.size, 0, none⟩ (.int .i64 c)).setCell ⟨w.heap.size, 1, none⟩ (.int .i64 x)).heap[w.heap.size]? = some (.cells #[.int .i64 c, .int .i64 x] 30 (0, 0)) ∧ Below w.heap.size w ((wr.setCell ⟨w.heap.size, 0, none⟩ (.int .i64 c)).setCell ⟨w.heap.size, 1, none⟩ (.int .i64 x)) ∧ ((wr.setCell ⟨w.heap.size, 0, none⟩ (.int .i64 c)).setCell ⟨w.heap.size, 1, none⟩ (.int .i64 x)).ownsRow w.heap.size 82 4 V r.toks.length (tokC r.toks) := by
  have h1 := heap_setCell_same wr w.heap.size 0 _ _ (.int .i64 c) h.fl
  refine ⟨heap_setCell_same _ w.heap.size 1 _ _ (.int .i64 x) h1, (h.bel.setCell (Nat.le_refl _) _).setCell (Nat.le_refl _) _, ?_⟩
  have h2 := ownsRow_setCell_below (ownsRow_setCell_below h.rd.row (show (⟨w.heap.size, 0, none⟩ : Addr).block < w.heap.size + 1 + 1 by show w.heap.size < _; omega) (.int .i64 c)) (show (⟨w.heap.size, 1, none⟩ : Addr).block < w.heap.size + 1 + 1 by show w.heap.size < _; omega) (.int .i64 x)
  refine ⟨h2.1, ?_⟩
  rcases h2.2 with h' | ⟨g, cap, cur, rfl, hg, rest⟩
  · exact .inl h'
  · exact .inr ⟨g, cap, cur, rfl, by omega, rest⟩
set_option maxRecDepth 100000 in
set_option maxHeartbeats 3200000 in
theorem tokens_any (s : List UInt8) (w : World) (ht : TT w) (hl : s.length ≤ 1048576) :
    Calls Tryz.prog 18 #[str s] w fun e w' => ∃ V, e = .returned (.tuple #[V, .agg #[.int .i64 (tk.tokens s).2.1, .int .i64 (tk.tokens s).2.2]]) ∧ w'.ownsRow w.heap.size 82 4 V (tk.tokens s).1.length (tokC (tk.tokens s).1) ∧ Below w.heap.size w w' := by
  have hsz := str_size s
  by_cases hlong : 4096 < s.length
  · have hT : tk.tokens s = ([], 2, 0) := by unfold tk.tokens; rw [if_pos hlong]
    rw [hT]
    have hli : (4096 : Int) < (s.length : Int) := by omega
    have hg := heap_alloc_new w (.cells #[.int .i64 2, .int .i64 0] 30)
    have HF := Lib.hid (And.intro hg (below_one w (.cells #[.int .i64 2, .int .i64 0] 30)))
    clear hg hT
    go_enter Tryz.func18, Tryz.ntmps18
    go_wp2_with fail
    refine bodyPost_ret (results_tmp_row rfl _ _ w.heap.size 30 _ (0, 0) _ rfl HF.out.1 Tryz.underlying30 rfl (by kernel_rfl)) rfl ?_
    exact ⟨_, rfl, World.ownsRow_nil _ _ _ _, HF.out.2⟩
  · have hli : ¬ (4096 : Int) < (s.length : Int) := by omega
    obtain ⟨R, hR⟩ : ∃ R, tk.run s s.length {} = R := ⟨_, rfl⟩
    have HT : Hid (tk.tokens s = if R.code = 0 then (R.toks, 0, 0) else ([], R.code, R.place)) := Lib.hid (by unfold tk.tokens; rw [if_neg hlong, hR])
    generalize tk.tokens s = T at *
    have H0 : Hid (TS w ((w.alloc (.cells #[.int .i64 0, .int .i64 0] 30)).alloc (.cells #[str s, .int .i64 0, .slice none 0 0, .int .i64 0, .int .i64 0] 79)) s {} (.slice none 0 0) s.length R) := Lib.hid (by
      have h1 := RdAt.new (w := w.alloc (.cells #[.int .i64 0, .int .i64 0] 30)) (s := s)
      rw [show (w.alloc (.cells #[.int .i64 0, .int .i64 0] 30)).heap.size = w.heap.size + 1 by simp] at h1
      exact ⟨h1, heap_alloc2_old w _ _, (below_one w _).trans ((below_one _ _).mono (by simp)), hR, Nat.le_refl _, fun _ => by show s.length - 0 ≤ s.length; omega⟩)
    have HTT := Lib.hid ht
    clear ht hR
    go_enter Tryz.func18, Tryz.ntmps18
    go_wp2_with fail
    generalize ((w.alloc (.cells #[.int .i64 0, .int .i64 0] 30)).alloc (.cells #[str s, .int .i64 0, .slice none 0 0, .int .i64 0, .int .i64 0] 79)) = wE at *
    go_loopg [] s.length (fun gg wr => ∃ (r : tk.St) (V : Value) (f : Nat), f ≤ gg ∧ Hid (TS w wr s r V f R))
    case atStart => exact ⟨_, _, _, Nat.le_refl _, H0⟩
    case round =>
      clear H0
      obtain ⟨r, V, f, hf, HS⟩ := hrel
      obtain ⟨c0, c1, c2, c3, c4, f1, f2, f3, f4, u⟩ := HS.out.rd.cells
      by_cases hlt : r.at_ < s.length
      · have hli2 : (r.at_ : Int) < (s.length : Int) := by omega
        by_cases hc : r.code = 0
        · have hci : ((r.code : Int) == 0) = true := by simp; omega
          have hrun := HS.out.run
          have hleft := HS.out.left hc
          obtain ⟨f', rfl⟩ : ∃ f', f = f' + 1 := ⟨f - 1, by omega⟩
          obtain ⟨hpr, hfew⟩ := tk.next_prog s r hlt hc HS.out.few
          have HR' : Hid (tk.run s f' (tk.next s r) = R) := Lib.hid (by
            unfold tk.run at hrun
            rwa [if_pos ⟨hlt, hc⟩] at hrun)
          have HPR := Lib.hid hpr
          have HFW := Lib.hid hfew
          have HNX := Lib.hid (next_any (w.heap.size + 1) s r V wr HS.out.rd (HTT.out.below HS.out.bel HTT.out.lt) (by omega) hlt (by have := HS.out.few; omega))
          generalize tk.next s r = r2 at *
          clear hrun hpr hfew
          go_wp2_with fail
          refine HNX.out.mono ?_
          rintro e w2 ⟨rfl, ⟨V2, hRd⟩, hb⟩
          have HS2 : Hid (TS w w2 s r2 V2 f' R) := Lib.hid ⟨hRd, (hb.block _ (Nat.lt_succ_self _)).trans HS.out.fl, HS.out.bel.trans (hb.mono (Nat.le_succ _)), HR'.out, HFW.out, fun h0 => by
            rcases HPR.out with h | h
            · exact absurd h0 h
            · omega⟩
          clear hRd hb
          go_wp2_with fail
          go_roundg f'
          case measure => omega
          case rel => exact ⟨r2, V2, f', Nat.le_refl _, HS2⟩
        · have hci : ((r.code : Int) == 0) = false := by simp; omega
          have hrR : R = r := by rw [← HS.out.run]; exact tk.run_stop s f r (fun h => hc h.2)
          have HE : Hid (T = ([], r.code, r.place)) := Lib.hid (by rw [HT.out, hrR, if_neg hc])
          have HF : Hid (((wr.setCell ⟨w.heap.size, 0, none⟩ (.int .i64 r.code)).setCell ⟨w.heap.size, 1, none⟩ (.int .i64 r.place)).drew.heap[w.heap.size]? = some (.cells #[.int .i64 r.code, .int .i64 r.place] 30 (0, 0)) ∧ Below w.heap.size w ((wr.setCell ⟨w.heap.size, 0, none⟩ (.int .i64 r.code)).setCell ⟨w.heap.size, 1, none⟩ (.int .i64 r.place)).drew) := Lib.hid ⟨(HS.out.fault r.code r.place).1, (HS.out.fault r.code r.place).2.1.drew⟩
          have hfl := HS.out.fl
          have hfu : w.heap.size < wr.heap.size := (Array.getElem?_eq_some_iff.1 hfl).1
          have d0 : wr.cell? ⟨w.heap.size, 0, none⟩ = some (.int .i64 0) := (cell_of_heap hfl).trans rfl
          have d1 : wr.cell? ⟨w.heap.size, 1, none⟩ = some (.int .i64 0) := (cell_of_heap hfl).trans rfl
          have e0 : wr.frozen? ⟨w.heap.size, 0, none⟩ = false := by simp [World.frozen?, hfl]
          have e1 : wr.frozen? ⟨w.heap.size, 1, none⟩ = false := by simp [World.frozen?, hfl]
          clear hfl
          clear hrR
          go_wp2_with fail
          go_region
          all_goals go_wp2_with fail
          all_goals refine bodyPost_ret (results_tmp_row rfl _ _ w.heap.size 30 _ (0, 0) _ rfl HF.out.1 Tryz.underlying30 rfl (by kernel_rfl)) rfl ?_
          all_goals rw [HE.out]
          all_goals exact ⟨_, rfl, World.ownsRow_nil _ _ _ _, HF.out.2⟩
      · have hli2 : ¬ (r.at_ : Int) < (s.length : Int) := by omega
        by_cases hc : r.code = 0
        · have hci : ((r.code : Int) == 0) = true := by simp; omega
          have hrR : R = r := by rw [← HS.out.run]; exact tk.run_stop s f r (fun h => hlt h.1)
          have HE : Hid (T = (r.toks, 0, 0)) := Lib.hid (by rw [HT.out, hrR, if_pos hc])
          have HF := Lib.hid (HS.out.fault 0 0)
          obtain ⟨ao, ac, rfl⟩ := own_slice HS.out.rd.row
          have hfl := HS.out.fl
          have hfu : w.heap.size < wr.heap.size := (Array.getElem?_eq_some_iff.1 hfl).1
          have d0 : wr.cell? ⟨w.heap.size, 0, none⟩ = some (.int .i64 0) := (cell_of_heap hfl).trans rfl
          have d1 : wr.cell? ⟨w.heap.size, 1, none⟩ = some (.int .i64 0) := (cell_of_heap hfl).trans rfl
          have e0 : wr.frozen? ⟨w.heap.size, 0, none⟩ = false := by simp [World.frozen?, hfl]
          have e1 : wr.frozen? ⟨w.heap.size, 1, none⟩ = false := by simp [World.frozen?, hfl]
          clear hfl
          clear hrR
          go_wp2_with fail
          refine bodyPost_ret (results_tmp_row rfl _ _ w.heap.size 30 _ (0, 0) _ rfl HF.out.1 Tryz.underlying30 rfl (by kernel_rfl)) rfl ?_
          rw [HE.out]
          exact ⟨_, rfl, HF.out.2.2, HF.out.2.1⟩
        · have hci : ((r.code : Int) == 0) = false := by simp; omega
          have hrR : R = r := by rw [← HS.out.run]; exact tk.run_stop s f r (fun h => hc h.2)
          have HE : Hid (T = ([], r.code, r.place)) := Lib.hid (by rw [HT.out, hrR, if_neg hc])
          have HF : Hid (((wr.setCell ⟨w.heap.size, 0, none⟩ (.int .i64 r.code)).setCell ⟨w.heap.size, 1, none⟩ (.int .i64 r.place)).drew.heap[w.heap.size]? = some (.cells #[.int .i64 r.code, .int .i64 r.place] 30 (0, 0)) ∧ Below w.heap.size w ((wr.setCell ⟨w.heap.size, 0, none⟩ (.int .i64 r.code)).setCell ⟨w.heap.size, 1, none⟩ (.int .i64 r.place)).drew) := Lib.hid ⟨(HS.out.fault r.code r.place).1, (HS.out.fault r.code r.place).2.1.drew⟩
          have hfl := HS.out.fl
          have hfu : w.heap.size < wr.heap.size := (Array.getElem?_eq_some_iff.1 hfl).1
          have d0 : wr.cell? ⟨w.heap.size, 0, none⟩ = some (.int .i64 0) := (cell_of_heap hfl).trans rfl
          have d1 : wr.cell? ⟨w.heap.size, 1, none⟩ = some (.int .i64 0) := (cell_of_heap hfl).trans rfl
          have e0 : wr.frozen? ⟨w.heap.size, 0, none⟩ = false := by simp [World.frozen?, hfl]
          have e1 : wr.frozen? ⟨w.heap.size, 1, none⟩ = false := by simp [World.frozen?, hfl]
          clear hfl
          clear hrR
          go_wp2_with fail
          go_region
          all_goals go_wp2_with fail
          all_goals refine bodyPost_ret (results_tmp_row rfl _ _ w.heap.size 30 _ (0, 0) _ rfl HF.out.1 Tryz.underlying30 rfl (by kernel_rfl)) rfl ?_
          all_goals rw [HE.out]
          all_goals exact ⟨_, rfl, World.ownsRow_nil _ _ _ _, HF.out.2⟩
end Go.Proofs.YthmiaamjbokljaaGreatDoor
