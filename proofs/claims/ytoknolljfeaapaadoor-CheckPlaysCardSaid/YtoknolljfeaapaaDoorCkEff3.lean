/- points, behind, next. -/
import Derived.Test.YtoknolljfeaapaaDoorCkEff2
namespace Go.Proofs.YtoknolljfeaapaaDoor
open Go.RowKit
/-- what a test answers -/
def BoolAns (w w' : World) (e : Ending) (r : Bool) : Prop := e = .returned (.bool r) ∧ Below w.heap.size w w'
theorem BoolAns.eq {w w' : World} {e : Ending} {r r' : Bool} (h : BoolAns w w' e r) (hr : r = r') : BoolAns w w' e r' := hr ▸ h
/-- what behind answers -/
def BehAns (w w' : World) (e : Ending) (r : Int × Bool) : Prop := e = .returned (.tuple #[.int .i64 r.1, .bool r.2]) ∧ Below w.heap.size w w'
theorem BehAns.eq {w w' : World} {e : Ending} {r r' : Int × Bool} (h : BehAns w w' e r) (hr : r = r') : BehAns w w' e r' := hr ▸ h
/-- functions' numbers within bounds -/
def ck.Lim (m : md.Mod) : Prop := ∀ g ∈ m.funcs, 0 ≤ g.params ∧ g.params ≤ 8 ∧ 0 ≤ g.results ∧ g.results ≤ 1 ∧ 0 ≤ g.locals ∧ g.params + g.locals ≤ 16 ∧ 1 ≤ g.code.length ∧ g.code.length ≤ 400
theorem ck.Lim.at_ {m : md.Mod} (h : ck.Lim m) (k : Nat) : 0 ≤ (ck.fnAt m k).params ∧ (ck.fnAt m k).params ≤ 8 ∧ 0 ≤ (ck.fnAt m k).results ∧ (ck.fnAt m k).results ≤ 1 ∧ 0 ≤ (ck.fnAt m k).locals ∧ (ck.fnAt m k).params + (ck.fnAt m k).locals ≤ 16 := by
  by_cases hk : k < m.funcs.length
  · rw [ck.fnAt_lt hk]
    have := h _ (List.getElem_mem hk)
    omega
  · unfold ck.fnAt
    rw [List.getD_eq_getElem?_getD, List.getElem?_eq_none (by omega), Option.getD_none]
    exact ⟨by decide, by decide, by decide, by decide, by decide, by decide⟩
theorem ck.effect_le {m : md.Mod} (hm : ck.Lim m) (f : Int) (i : md.Ins) : 0 ≤ (ck.effect m f i).1 ∧ (ck.effect m f i).1 ≤ 8 ∧ 0 ≤ (ck.effect m f i).2.1 ∧ (ck.effect m f i).2.1 ≤ 2 := by
  unfold ck.effect
  split
  · split
    · unfold ck.callEff
      split
      · have := hm.at_ i.n.toNat
        simp only
        omega
      · exact ⟨Int.le_refl 0, show (0 : Int) ≤ 8 by decide, Int.le_refl 0, show (0 : Int) ≤ 2 by decide⟩
    · split
      · have := hm.at_ f.toNat
        simp only
        omega
      · split
        · unfold ck.hostEff
          split
          · rename_i h
            obtain ⟨h0, h1⟩ := ck.below_iff.1 h
            have : i.n.toNat < 12 := by omega
            have key : ∀ k : Nat, k < 12 → 0 ≤ ck.hostT.getD k 0 ∧ ck.hostT.getD k 0 ≤ 8 := by decide
            have := key _ this
            exact ⟨this.1, this.2, show (0 : Int) ≤ 1 by decide, show (1 : Int) ≤ 2 by decide⟩
          · exact ⟨Int.le_refl 0, show (0 : Int) ≤ 8 by decide, Int.le_refl 0, show (0 : Int) ≤ 2 by decide⟩
        · unfold ck.plain
          repeat' split
          all_goals exact ⟨by decide, by decide, by decide, by decide⟩
  · exact ⟨Int.le_refl 0, show (0 : Int) ≤ 8 by decide, Int.le_refl 0, show (0 : Int) ≤ 2 by decide⟩
set_option maxRecDepth 100000 in
set_option maxHeartbeats 1600000 in
theorem behind_any (D : Nat → Prop) (m : md.Mod) (VD VF : Value) (f : Nat) (op n : Int) (ht0 : Int) (w : World) (h : ModIn w D VD VF m) (ht : HT w) (hm : ck.Lim m) (hh0 : 0 ≤ ht0) (hh1 : ht0 ≤ 64) :
    Calls Tryd.prog 57 #[modV m VD VF, .int .i64 f, .agg #[.int .i64 op, .int .i64 n], .int .i64 ht0] w fun e w' => BehAns w w' e (ck.behind m f ⟨op, n⟩ ht0) := by
  obtain ⟨od, cd, of, cf, rfl, rfl, hd1, hd2, hf1, hf2⟩ := h.slices
  have hx := two_boxes w (modB m.mem (.slice od m.data.length cd) (.slice of m.funcs.length cf)) (insB op n)
  have HX := Lib.hid hx
  have HEF := Lib.hid (effect_any D m _ _ f op n _ (h.below hx.2.2) (ht.below hx.2.2))
  obtain ⟨g1, g2, g3, g4⟩ := ck.effect_le hm f ⟨op, n⟩
  have HE : Hid (ck.behind m f ⟨op, n⟩ ht0 = if ht0 - (ck.effect m f ⟨op, n⟩).1 < 0 ∨ 64 < ht0 - (ck.effect m f ⟨op, n⟩).1 + (ck.effect m f ⟨op, n⟩).2.1 ∨ (op = 27 ∧ 0 < ht0 - (ck.effect m f ⟨op, n⟩).1) then (0, false) else (ht0 - (ck.effect m f ⟨op, n⟩).1 + (ck.effect m f ⟨op, n⟩).2.1, true)) := Lib.hid rfl
  clear hm
  generalize ck.behind m f ⟨op, n⟩ ht0 = R0 at *
  generalize ck.effect m f ⟨op, n⟩ = R at *
  obtain ⟨mem, d, fs⟩ := m
  dsimp only at HX HEF
  obtain ⟨tk, pt, ok⟩ := R
  dsimp only at g1 g2 g3 g4 HE
  clear h hd1 hd2 hx ht hf1 hf2
  generalize fs.length = nf at *
  generalize d.length = nd at *
  have k0 : ((w.alloc (modB mem (.slice od nd cd) (.slice of nf cf))).alloc (insB op n)).cell? ⟨w.heap.size, 0, none⟩ = some (.int .i64 mem) := (cell_of_heap HX.out.1).trans rfl
  have k1 : ((w.alloc (modB mem (.slice od nd cd) (.slice of nf cf))).alloc (insB op n)).cell? ⟨w.heap.size, 1, none⟩ = some (.slice od nd cd) := (cell_of_heap HX.out.1).trans rfl
  have k2 : ((w.alloc (modB mem (.slice od nd cd) (.slice of nf cf))).alloc (insB op n)).cell? ⟨w.heap.size, 2, none⟩ = some (.slice of nf cf) := (cell_of_heap HX.out.1).trans rfl
  have i0 : ((w.alloc (modB mem (.slice od nd cd) (.slice of nf cf))).alloc (insB op n)).cell? ⟨w.heap.size + 1, 0, none⟩ = some (.int .i64 op) := (cell_of_heap HX.out.2.1).trans rfl
  have i1 : ((w.alloc (modB mem (.slice od nd cd) (.slice of nf cf))).alloc (insB op n)).cell? ⟨w.heap.size + 1, 1, none⟩ = some (.int .i64 n) := (cell_of_heap HX.out.2.1).trans rfl
  go_enter Tryd.func57, Tryd.ntmps57
  go_upto_region 1 with fail
  generalize (w.alloc (modB mem (.slice od nd cd) (.slice of nf cf))).alloc (insB op n) = W2 at *
  have hl0 := heap_lt HX.out.1
  have hl1 := heap_lt HX.out.2.1
  go_wp2_with fail
  refine HEF.out.mono ?_
  rintro e w3 ⟨rfl, hb3⟩
  have HB3 := Lib.hid (HX.out.2.2.trans (hb3.mono HX.out.2.2.size))
  have i0' : w3.cell? ⟨w.heap.size + 1, 0, none⟩ = some (.int .i64 op) := (cell_of_heap ((hb3.block _ hl1).trans HX.out.2.1)).trans rfl
  have hl3 := Nat.lt_of_lt_of_le hl1 hb3.size
  clear hb3 HEF k0 k1 k2 i0 i1 hl0 hl1 HX
  by_cases c1 : ht0 - tk < 0
  · have HR : Hid (R0 = (0, false)) := Lib.hid (by rw [HE.out, if_pos (.inl c1)])
    clear HE
    have c1' : ht0 < tk := by omega
    go_wp2_with fail
    go_ret2
    exact BehAns.eq ⟨rfl, HB3.out⟩ HR.out.symm
  by_cases c2 : 64 < ht0 - tk + pt
  · have HR : Hid (R0 = (0, false)) := Lib.hid (by rw [HE.out, if_pos (.inr (.inl c2))])
    clear HE
    have c1' : ¬ ht0 < tk := by omega
    go_wp2_with fail
    go_ret2
    exact BehAns.eq ⟨rfl, HB3.out⟩ HR.out.symm
  by_cases c3 : op = 27
  · by_cases c4 : 0 < ht0 - tk
    · have HR : Hid (R0 = (0, false)) := Lib.hid (by rw [HE.out, if_pos (.inr (.inr ⟨c3, c4⟩))])
      have e27 : (op == 27) = true := by simpa using c3
      have HO := Lib.hid c3
      clear HE c3
      have c1' : ¬ ht0 < tk := by omega
      have c4' : tk < ht0 := by omega
      go_wp2_with fail
      go_ret2
      exact BehAns.eq ⟨rfl, HB3.out⟩ HR.out.symm
    · have HR : Hid (R0 = (ht0 - tk + pt, true)) := Lib.hid (by rw [HE.out, if_neg (by omega)])
      have e27 : (op == 27) = true := by simpa using c3
      clear HE c3
      have c1' : ¬ ht0 < tk := by omega
      have c4' : ¬ tk < ht0 := by omega
      go_wp2_with fail
      go_ret2
      exact BehAns.eq ⟨rfl, HB3.out⟩ HR.out.symm
  · have HR : Hid (R0 = (ht0 - tk + pt, true)) := Lib.hid (by rw [HE.out, if_neg (by omega)])
    have e27 : (op == 27) = false := by simpa using c3
    clear HE
    have c1' : ¬ ht0 < tk := by omega
    go_wp2_with fail
    go_ret2
    exact BehAns.eq ⟨rfl, HB3.out⟩ HR.out.symm
def naC (l : List Nat) : List Value := l.map fun x => Value.int .i64 (x : Nat)
/-- what next answers: a new row of places -/
def NextAns (w w' : World) (e : Ending) (l : List Nat) : Prop := ∃ V, e = .returned V ∧ w'.ownsRow w.heap.size 3 1 V l.length (naC l) ∧ Below w.heap.size w w'
theorem own_lit (w : World) (B : Nat) (hB : B ≤ w.heap.size) (l : List Nat) (cs : Array Value) (hc : cs = (naC l).toArray) (hl : l.length ≤ 1000) : (w.alloc (.cells cs 3)).ownsRow B 3 1 (.slice (some ⟨w.heap.size, 0, none⟩) l.length l.length) l.length (naC l) := by
  subst hc
  refine ⟨by simp [naC], .inr ⟨w.heap.size, l.length, _, rfl, hB, heap_alloc_new w _, Nat.le_refl _, by unfold maxLen; omega, by simp [naC], ?_⟩⟩
  simp only [naC, Nat.mul_one]
  exact List.take_of_length_le (by simp)
set_option maxRecDepth 100000 in
set_option maxHeartbeats 1600000 in
theorem next_any (op n : Int) (k : Nat) (w : World) (hk : k ≤ 400) (hj : op = 24 ∨ op = 25 → 0 ≤ n) :
    Calls Tryd.prog 59 #[.agg #[.int .i64 op, .int .i64 n], .int .i64 k] w fun e w' => NextAns w w' e (ck.next ⟨op, n⟩ k) := by
  have hx0 := heap_alloc_new w (insB op n)
  have hx1 := below_one w (insB op n)
  have HX := Lib.hid (And.intro hx0 hx1)
  have HE : Hid (ck.next ⟨op, n⟩ k = if op = 24 then [n.toNat] else if op = 25 then [n.toNat, k + 1] else if op = 27 ∨ op = 29 then [] else [k + 1]) := Lib.hid rfl
  generalize ck.next ⟨op, n⟩ k = R0 at *
  have hl := heap_lt hx0
  have i0 : (w.alloc (insB op n)).cell? ⟨w.heap.size, 0, none⟩ = some (.int .i64 op) := (cell_of_heap hx0).trans rfl
  have i1 : (w.alloc (insB op n)).cell? ⟨w.heap.size, 1, none⟩ = some (.int .i64 n) := (cell_of_heap hx0).trans rfl
  obtain ⟨W1, hW1⟩ : ∃ W1, w.alloc (insB op n) = W1 := ⟨_, rfl⟩
  rw [hW1] at hl i0 i1 HX
  have HW1 := Lib.hid hW1
  clear hx0 hx1 hW1
  have HL := Lib.hid (fun l cs h1 h2 => own_lit W1 w.heap.size HX.out.2.size l cs h1 h2)
  have HBL := Lib.hid (fun o => HX.out.2.trans ((below_one W1 o).mono HX.out.2.size))
  by_cases h24 : op = 24
  · obtain ⟨j, rfl⟩ : ∃ j : Nat, n = (j : Int) := ⟨n.toNat, by have := hj (.inl h24); omega⟩
    have HR : Hid (R0 = [j]) := Lib.hid (by rw [HE.out, if_pos h24, Int.toNat_natCast])
    subst h24
    clear HE hj
    go_enter Tryd.func59, Tryd.ntmps59
    go_upto_region 1 with fail
    rw [HW1.out]
    clear HW1
    go_wp2_with fail
    go_ret
    exact HR.out ▸ ⟨_, rfl, HL.out [j] _ rfl (by simp), HBL.out _⟩
  have e24 : (op == 24) = false := by simpa using h24
  by_cases h25 : op = 25
  · obtain ⟨j, rfl⟩ : ∃ j : Nat, n = (j : Int) := ⟨n.toNat, by have := hj (.inr h25); omega⟩
    have HR : Hid (R0 = [j, k + 1]) := Lib.hid (by rw [HE.out, if_neg h24, if_pos h25, Int.toNat_natCast])
    subst h25
    clear HE hj h24 e24
    go_enter Tryd.func59, Tryd.ntmps59
    go_upto_region 1 with fail
    rw [HW1.out]
    clear HW1
    go_wp2_with fail
    go_ret
    exact HR.out ▸ ⟨_, rfl, HL.out [j, k + 1] _ rfl (by simp), HBL.out _⟩
  have e25 : (op == 25) = false := by simpa using h25
  by_cases h27 : op = 27 ∨ op = 29
  · have HR : Hid (R0 = []) := Lib.hid (by rw [HE.out, if_neg h24, if_neg h25, if_pos h27])
    clear HE hj
    rcases h27 with rfl | rfl
    all_goals
      clear h24 h25 e24 e25
      go_enter Tryd.func59, Tryd.ntmps59
      go_upto_region 1 with fail
      rw [HW1.out]
      clear HW1
      go_wp2_with fail
      go_ret
      exact HR.out ▸ ⟨_, rfl, World.ownsRow_nil _ _ _ _, HX.out.2⟩
  · have HR : Hid (R0 = [k + 1]) := Lib.hid (by rw [HE.out, if_neg h24, if_neg h25, if_neg h27])
    have e27 : (op == 27) = false := by simp; omega
    have e29 : (op == 29) = false := by simp; omega
    clear HE hj h24 h25 h27
    go_enter Tryd.func59, Tryd.ntmps59
    go_upto_region 1 with fail
    rw [HW1.out]
    clear HW1
    go_wp2_with fail
    go_ret
    exact HR.out ▸ ⟨_, rfl, HL.out [k + 1] _ rfl (by simp), HBL.out _⟩
end Go.Proofs.YtoknolljfeaapaaDoor
