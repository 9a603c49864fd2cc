/- The document's Effect. -/
import Derived.Test.YtoknolljfeaapaaDoorCkAlive
namespace Go.Proofs.YtoknolljfeaapaaDoor
open Go.RowKit
def ck.takesT : List Int := [0, 0, 1, 1, 2, 0, 1, 2, 2, 2, 2, 2, 2, 2, 2, 2, 2, 2, 2, 1, 1, 2, 1, 2, 0, 1, 0, 0, 0, 0]
def ck.putsT : List Int := [0, 1, 0, 2, 2, 1, 0, 1, 1, 1, 1, 1, 1, 1, 1, 1, 1, 1, 1, 1, 1, 0, 1, 0, 0, 0, 0, 0, 0, 0]
theorem ck.plain_tab0 : ∀ k : Nat, k < 30 → (k = 26 ∨ k = 27 ∨ k = 28 ∨ ck.plain (k : Int) = (ck.takesT.getD k 0, ck.putsT.getD k 0, true)) := by decide
theorem ck.plain_tab (k : Nat) (hk : k < 30) (h1 : k ≠ 26) (h2 : k ≠ 27) (h3 : k ≠ 28) : ck.plain (k : Int) = (ck.takesT.getD k 0, ck.putsT.getD k 0, true) := by
  rcases ck.plain_tab0 k hk with h | h | h | h
  · exact absurd h h1
  · exact absurd h h2
  · exact absurd h h3
  · exact h
abbrev tkO : Obj := .cells #[.int .i64 0, .int .i64 0, .int .i64 1, .int .i64 1, .int .i64 2, .int .i64 0, .int .i64 1, .int .i64 2, .int .i64 2, .int .i64 2, .int .i64 2, .int .i64 2, .int .i64 2, .int .i64 2, .int .i64 2, .int .i64 2, .int .i64 2, .int .i64 2, .int .i64 2, .int .i64 1, .int .i64 1, .int .i64 2, .int .i64 1, .int .i64 2, .int .i64 0, .int .i64 1, .int .i64 0, .int .i64 0, .int .i64 0, .int .i64 0] 3
abbrev ptO : Obj := .cells #[.int .i64 0, .int .i64 1, .int .i64 0, .int .i64 2, .int .i64 2, .int .i64 1, .int .i64 0, .int .i64 1, .int .i64 1, .int .i64 1, .int .i64 1, .int .i64 1, .int .i64 1, .int .i64 1, .int .i64 1, .int .i64 1, .int .i64 1, .int .i64 1, .int .i64 1, .int .i64 1, .int .i64 1, .int .i64 0, .int .i64 1, .int .i64 0, .int .i64 0, .int .i64 0, .int .i64 0, .int .i64 0, .int .i64 0, .int .i64 0] 3
abbrev hoO : Obj := .cells #[.int .i64 3, .int .i64 3, .int .i64 0, .int .i64 1, .int .i64 1, .int .i64 3, .int .i64 1, .int .i64 0, .int .i64 1, .int .i64 3, .int .i64 0, .int .i64 2] 3
theorem tk_at : ∀ k : Nat, k < 30 → (#[.int .i64 0, .int .i64 0, .int .i64 1, .int .i64 1, .int .i64 2, .int .i64 0, .int .i64 1, .int .i64 2, .int .i64 2, .int .i64 2, .int .i64 2, .int .i64 2, .int .i64 2, .int .i64 2, .int .i64 2, .int .i64 2, .int .i64 2, .int .i64 2, .int .i64 2, .int .i64 1, .int .i64 1, .int .i64 2, .int .i64 1, .int .i64 2, .int .i64 0, .int .i64 1, .int .i64 0, .int .i64 0, .int .i64 0, .int .i64 0] : Array Value)[k]? = some (.int .i64 (ck.takesT.getD k 0)) := fun k hk => by
  have key : ∀ l : List Int, ∀ k : Nat, k < l.length → ((l.map fun x => Value.int .i64 x).toArray)[k]? = some (.int .i64 (l.getD k 0)) := fun l k hk => by simp [hk]
  exact key ck.takesT k hk
theorem pt_at : ∀ k : Nat, k < 30 → (#[.int .i64 0, .int .i64 1, .int .i64 0, .int .i64 2, .int .i64 2, .int .i64 1, .int .i64 0, .int .i64 1, .int .i64 1, .int .i64 1, .int .i64 1, .int .i64 1, .int .i64 1, .int .i64 1, .int .i64 1, .int .i64 1, .int .i64 1, .int .i64 1, .int .i64 1, .int .i64 1, .int .i64 1, .int .i64 0, .int .i64 1, .int .i64 0, .int .i64 0, .int .i64 0, .int .i64 0, .int .i64 0, .int .i64 0, .int .i64 0] : Array Value)[k]? = some (.int .i64 (ck.putsT.getD k 0)) := fun k hk => by
  have key : ∀ l : List Int, ∀ k : Nat, k < l.length → ((l.map fun x => Value.int .i64 x).toArray)[k]? = some (.int .i64 (l.getD k 0)) := fun l k hk => by simp [hk]
  exact key ck.putsT k hk
theorem ho_at : ∀ k : Nat, k < 12 → (#[.int .i64 3, .int .i64 3, .int .i64 0, .int .i64 1, .int .i64 1, .int .i64 3, .int .i64 1, .int .i64 0, .int .i64 1, .int .i64 3, .int .i64 0, .int .i64 2] : Array Value)[k]? = some (.int .i64 (ck.hostT.getD k 0)) := fun k hk => by
  have key : ∀ l : List Int, ∀ k : Nat, k < l.length → ((l.map fun x => Value.int .i64 x).toArray)[k]? = some (.int .i64 (l.getD k 0)) := fun l k hk => by simp [hk]
  exact key ck.hostT k hk
set_option maxRecDepth 100000 in
set_option maxHeartbeats 3200000 in
theorem reffect_any (D : Nat → Prop) (m : md.Mod) (VD VF : Value) (f op n : Int) (w : World) (h : ModIn w D VD VF m) :
    Calls Tryd.prog 36 #[modV m VD VF, .int .i64 f, .agg #[.int .i64 op, .int .i64 n]] w fun e w' => EffAns w w' e (ck.effect m f ⟨op, n⟩) := by
  obtain ⟨od, cd, of, cf, rfl, rfl, hd1, hd2, hf1, hf2⟩ := h.slices
  have hx := two_boxes w (modB m.mem (.slice od m.data.length cd) (.slice of m.funcs.length cf)) (insB op n)
  have HM := Lib.hid (h.below hx.2.2)
  have HX := Lib.hid hx
  have HE : Hid (ck.effect m f ⟨op, n⟩ = if ck.below f m.funcs.length = true then (if op = 26 then ck.callEff m n else if op = 27 then ((ck.fnAt m f.toNat).results, 0, true) else if op = 28 then ck.hostEff n else ck.plain op) else (0, 0, false)) := Lib.hid rfl
  clear h hd1 hd2 hx
  obtain ⟨R0, hR0⟩ : ∃ R0, ck.effect m f ⟨op, n⟩ = R0 := ⟨_, rfl⟩
  rw [hR0] at HE ⊢
  clear hR0
  obtain ⟨W2, hW2⟩ : ∃ W2, (w.alloc (modB m.mem (.slice od m.data.length cd) (.slice of m.funcs.length cf))).alloc (insB op n) = W2 := ⟨_, rfl⟩
  rw [hW2] at HM HX
  have HW2 := Lib.hid hW2
  clear hW2
  have k2 : W2.cell? ⟨w.heap.size, 2, none⟩ = some (.slice of m.funcs.length cf) := (cell_of_heap HX.out.1).trans rfl
  have i0 : W2.cell? ⟨w.heap.size + 1, 0, none⟩ = some (.int .i64 op) := (cell_of_heap HX.out.2.1).trans rfl
  have i1 : W2.cell? ⟨w.heap.size + 1, 1, none⟩ = some (.int .i64 n) := (cell_of_heap HX.out.2.1).trans rfl
  have hl0 := heap_lt HX.out.1
  have hl1 := heap_lt HX.out.2.1
  go_enter Tryd.func36, Tryd.ntmps36
  go_upto_region 1 with fail
  rw [HW2.out]
  clear HW2
  by_cases hf0 : f < 0
  · have HR : Hid (R0 = (0, 0, false)) := Lib.hid (by rw [HE.out, if_neg (fun h => by have := ck.below_iff.1 h; omega)])
    clear HE HM
    go_wp2_with fail
    go_ret3
    exact EffAns.eq ⟨rfl, HX.out.2.2⟩ HR.out.symm
  by_cases hf1' : (m.funcs.length : Int) ≤ f
  · have HR : Hid (R0 = (0, 0, false)) := Lib.hid (by rw [HE.out, if_neg (fun h => by have := ck.below_iff.1 h; omega)])
    clear HE HM
    go_wp2_with fail
    go_ret3
    exact EffAns.eq ⟨rfl, HX.out.2.2⟩ HR.out.symm
  have HE2 : Hid (R0 = if op = 26 then ck.callEff m n else if op = 27 then ((ck.fnAt m f.toNat).results, 0, true) else if op = 28 then ck.hostEff n else ck.plain op) := Lib.hid (by rw [HE.out, if_pos (ck.below_iff.2 ⟨by omega, by omega⟩)])
  clear HE
  by_cases ho : op < 0
  · have HR : Hid (R0 = (0, 0, false)) := Lib.hid (by rw [HE2.out, if_neg (by omega), if_neg (by omega), if_neg (by omega), ck.plain_out (.inl ho)])
    clear HE2 HM
    go_wp2_with fail
    go_ret3
    exact EffAns.eq ⟨rfl, HX.out.2.2⟩ HR.out.symm
  by_cases ho2 : 29 < op
  · have HR : Hid (R0 = (0, 0, false)) := Lib.hid (by rw [HE2.out, if_neg (by omega), if_neg (by omega), if_neg (by omega), ck.plain_out (.inr (.inl ho2))])
    clear HE2 HM
    go_wp2_with fail
    go_ret3
    exact EffAns.eq ⟨rfl, HX.out.2.2⟩ HR.out.symm
  by_cases h26 : op = 26
  · subst h26
    have HE3 : Hid (R0 = ck.callEff m n) := Lib.hid (by rw [HE2.out, if_pos rfl])
    clear HE2
    by_cases hn0 : n < 0
    · have HR : Hid (R0 = (0, 0, false)) := Lib.hid (by rw [HE3.out]; unfold ck.callEff; rw [if_neg (fun h => by have := ck.below_iff.1 h; omega)])
      clear HE3 HM
      go_wp2_with fail
      go_ret3
      exact EffAns.eq ⟨rfl, HX.out.2.2⟩ HR.out.symm
    by_cases hn1 : (m.funcs.length : Int) ≤ n
    · have HR : Hid (R0 = (0, 0, false)) := Lib.hid (by rw [HE3.out]; unfold ck.callEff; rw [if_neg (fun h => by have := ck.below_iff.1 h; omega)])
      clear HE3 HM
      go_wp2_with fail
      go_ret3
      exact EffAns.eq ⟨rfl, HX.out.2.2⟩ HR.out.symm
    obtain ⟨k, rfl⟩ : ∃ k : Nat, n = (k : Int) := ⟨n.toNat, by omega⟩
    have hk : k < m.funcs.length := by omega
    have HR : Hid (R0 = ((ck.fnAt m k).params, (ck.fnAt m k).results, true)) := Lib.hid (by rw [HE3.out]; unfold ck.callEff; rw [if_pos (ck.below_iff.2 ⟨by omega, by omega⟩), Int.toNat_natCast])
    obtain ⟨b, off, oc, cc, rfl, -, hlb, p0, p1, -, -, -⟩ := FnsIn.cell HM.out.fns k hk
    rw [← ck.fnAt_lt hk] at p0 p1
    have hki : (k : Int) < (m.funcs.length : Int) := by omega
    clear HE3 HM hn0 hn1
    go_upto_region 6 with fail
    go_quiet (fail)
    go_wp2_with fail
    go_ret3
    exact EffAns.eq ⟨rfl, below_dN HX.out.2.2 _⟩ HR.out.symm
  have e26 : (op == 26) = false := by simpa using h26
  by_cases h27 : op = 27
  · subst h27
    obtain ⟨k, rfl⟩ : ∃ k : Nat, f = (k : Int) := ⟨f.toNat, by omega⟩
    have hk : k < m.funcs.length := by omega
    have HR : Hid (R0 = ((ck.fnAt m k).results, 0, true)) := Lib.hid (by rw [HE2.out, if_neg (by decide), if_pos rfl, Int.toNat_natCast])
    obtain ⟨b, off, oc, cc, rfl, -, hlb, -, p1, -, -, -⟩ := FnsIn.cell HM.out.fns k hk
    rw [← ck.fnAt_lt hk] at p1
    have hki : (k : Int) < (m.funcs.length : Int) := by omega
    clear HE2 HM hf0 hf1'
    go_wp2_with fail
    go_ret3
    exact EffAns.eq ⟨rfl, HX.out.2.2⟩ HR.out.symm
  have e27 : (op == 27) = false := by simpa using h27
  by_cases h28 : op = 28
  · subst h28
    have HE3 : Hid (R0 = ck.hostEff n) := Lib.hid (by rw [HE2.out, if_neg (by decide), if_neg (by decide), if_pos rfl])
    have hb3 := below_one W2 hoO
    have hn3 := heap_alloc_new W2 hoO
    have HB3 := Lib.hid (HX.out.2.2.trans (hb3.mono HX.out.2.2.size))
    have j1 : (W2.alloc hoO).cell? ⟨w.heap.size + 1, 1, none⟩ = some (.int .i64 n) := (cell_of_eq (hb3.block _ hl1) 1).trans i1
    clear HE2 HM h26 h27 e26 e27
    by_cases hn0 : n < 0
    · have HR : Hid (R0 = (0, 0, false)) := Lib.hid (by rw [HE3.out]; unfold ck.hostEff; rw [if_neg (fun h => by have := ck.below_iff.1 h; omega)])
      clear HE3 hb3 hn3
      go_wp2_with fail
      go_ret3
      exact EffAns.eq ⟨rfl, HB3.out⟩ HR.out.symm
    by_cases hn1 : 11 < n
    · have HR : Hid (R0 = (0, 0, false)) := Lib.hid (by rw [HE3.out]; unfold ck.hostEff; rw [if_neg (fun h => by have := ck.below_iff.1 h; omega)])
      clear HE3 hb3 hn3
      go_wp2_with fail
      go_ret3
      exact EffAns.eq ⟨rfl, HB3.out⟩ HR.out.symm
    obtain ⟨k, rfl⟩ : ∃ k : Nat, n = (k : Int) := ⟨n.toNat, by omega⟩
    have hk : k < 12 := by omega
    have HR : Hid (R0 = (ck.hostT.getD k 0, 1, true)) := Lib.hid (by rw [HE3.out]; unfold ck.hostEff; rw [if_pos (ck.below_iff.2 ⟨by omega, by omega⟩), Int.toNat_natCast])
    have c3 : (W2.alloc hoO).cell? ⟨W2.heap.size, k, none⟩ = some (.int .i64 (ck.hostT.getD k 0)) := (cell_of_heap hn3).trans (ho_at k hk)
    have hki : (k : Int) < 12 := by omega
    clear HE3 hb3 hn3 hn0 hn1
    generalize ck.hostT.getD k 0 = T at *
    go_upto_region 11 with fail
    go_wp2_with fail
    go_ret3
    exact EffAns.eq ⟨rfl, HB3.out⟩ HR.out.symm
  have e28 : (op == 28) = false := by simpa using h28
  obtain ⟨k, rfl⟩ : ∃ k : Nat, op = (k : Int) := ⟨op.toNat, by omega⟩
  have hk : k < 30 := by omega
  have HR : Hid (R0 = (ck.takesT.getD k 0, ck.putsT.getD k 0, true)) := Lib.hid (by rw [HE2.out, if_neg h26, if_neg h27, if_neg h28, ck.plain_tab k hk (by omega) (by omega) (by omega)])
  have hx4 := two_boxes W2 tkO ptO
  have HB4 := Lib.hid (HX.out.2.2.trans (hx4.2.2.mono HX.out.2.2.size))
  have t3 : ((W2.alloc tkO).alloc ptO).cell? ⟨W2.heap.size, k, none⟩ = some (.int .i64 (ck.takesT.getD k 0)) := (cell_of_heap hx4.1).trans (tk_at k hk)
  have t4 : ((W2.alloc tkO).alloc ptO).cell? ⟨W2.heap.size + 1, k, none⟩ = some (.int .i64 (ck.putsT.getD k 0)) := (cell_of_heap hx4.2.1).trans (pt_at k hk)
  have j0 : ((W2.alloc tkO).alloc ptO).cell? ⟨w.heap.size + 1, 0, none⟩ = some (.int .i64 (k : Int)) := (cell_of_eq (hx4.2.2.block _ hl1) 0).trans i0
  have hls := Nat.lt_of_lt_of_le hl1 hx4.2.2.size
  have hl2 := heap_lt hx4.1
  have hl3 := heap_lt hx4.2.1
  have hki : (k : Int) < 30 := by omega
  clear HE2 HM h26 h27 h28 hx4
  generalize ck.takesT.getD k 0 = T at *
  generalize ck.putsT.getD k 0 = U at *
  go_upto_region 16 with fail
  clear k2 i0 i1 hl0 hl1
  generalize (W2.alloc tkO).alloc ptO = W4 at *
  go_quiet (fail)
  go_wp2_with fail
  go_ret3
  exact EffAns.eq ⟨rfl, below_dN HB4.out _⟩ HR.out.symm
end Go.Proofs.YtoknolljfeaapaaDoor
