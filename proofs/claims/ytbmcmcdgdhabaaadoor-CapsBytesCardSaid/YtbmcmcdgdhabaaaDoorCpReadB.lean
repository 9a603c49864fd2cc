/- read: the call that arguments say. -/
import Derived.Test.YtbmcmcdgdhabaaaDoorCpM
import Derived.Laws.ResultCell
namespace Go.Proofs.YtbmcmcdgdhabaaaDoor
open Go.RowKit
theorem results_cct {P : Program} {fn : Func} {p u v : Tmp} {ty tz : TypeId} (h : fn.results = #[.cell p ty, .cell u tz, .tmp v]) (tmps : Array Value) (w : World) (g k : Nat) (t t' : TypeId) (cs ds : Array Value) (fr fr' : Nat × Nat) (d d' : TypeDesc)
    (hp : tmps.getD p undef = .pointer (some ⟨g, 0, none⟩)) (hg : w.heap[g]? = some (.cells cs t fr)) (hu : P.underlying ty = some d) (hd : (match d with | .struct _ | .array _ _ => true | _ => false) = true) (hi : (P.info? ty).map (·.size) = some cs.size)
    (hp' : tmps.getD u undef = .pointer (some ⟨k, 0, none⟩)) (hg' : w.heap[k]? = some (.cells ds t' fr')) (hu' : P.underlying tz = some d') (hd' : (match d' with | .struct _ | .array _ _ => true | _ => false) = true) (hi' : (P.info? tz).map (·.size) = some ds.size) :
    (results fn tmps).run P w = .ok (.tuple #[.agg cs, .agg ds, tmps.getD v undef]) w := by
  have e : (results fn tmps).run P w = ((asAddr (tmps.getD p undef)).run P w).andThen fun a w₁ => ((loadVar ty a).run P w₁).andThen fun x w₂ => ((asAddr (tmps.getD u undef)).run P w₂).andThen fun b w₃ => ((loadVar tz b).run P w₃).andThen fun y w₄ => .ok (.tuple #[x, y, tmps.getD v undef]) w₄ := by
    simp only [results, h]
    simp [Sem.run_bind, Result.andThen]
  rw [e, hp, hp']
  simp [asAddr, run_loadVar_row w g t ty cs fr d hg hu hd hi, run_loadVar_row w k t' tz ds fr' d' hg' hu' hd' hi', Result.andThen]
def ReadAns (w w' : World) (e : Ending) (r : cp.Rd) : Prop := e = .returned (.tuple #[callV r.c (.slice none 0 0), partV r.at_ r.len, .bool r.ok]) ∧ Below w.heap.size w w'
/-- the answer's two boxes -/
structure GB (w wx : World) (C P : Array Value) : Prop where
  b0 : wx.heap[w.heap.size]? = some (.cells C 28 (0, 0))
  b1 : wx.heap[w.heap.size + 1]? = some (.cells P 45 (0, 0))
  bel : Below w.heap.size w wx
theorem GB.next {w wx wy : World} {C P : Array Value} (h : GB w wx C P) (hb : Below wx.heap.size wx wy) : GB w wy C P := ⟨(hb.block _ (heap_lt h.b0)).trans h.b0, (hb.block _ (heap_lt h.b1)).trans h.b1, h.bel.trans (hb.mono h.bel.size)⟩
theorem GB.drewN {w wx : World} {C P : Array Value} (h : GB w wx C P) (n : Nat) : GB w (wx.drewN n) C P := ⟨h.b0, h.b1, below_dN h.bel n⟩
theorem GB.drew {w wx : World} {C P : Array Value} (h : GB w wx C P) : GB w wx.drew C P := ⟨h.b0, h.b1, below_dN h.bel 1⟩
theorem GB.set0 {w wx : World} {C C' P : Array Value} {i : Nat} {u : Value} (h : GB w wx C P) (e : C' = C.setIfInBounds i u) : GB w (wx.setCell ⟨w.heap.size, i, none⟩ u) C' P := by
  subst e
  exact ⟨heap_setCell_same _ _ i _ _ u h.b0, (Below.heap_setCell _ _ u _ (by simp)).trans h.b1, h.bel.setCell (Nat.le_refl _) _⟩
theorem GB.set1 {w wx : World} {C P P' : Array Value} {i : Nat} {u : Value} (h : GB w wx C P) (e : P' = P.setIfInBounds i u) : GB w (wx.setCell ⟨w.heap.size + 1, i, none⟩ u) C P' := by
  subst e
  exact ⟨(Below.heap_setCell _ _ u _ (by simp)).trans h.b0, heap_setCell_same _ _ i _ _ u h.b1, h.bel.setCell (Nat.le_succ _) _⟩
abbrev cellsC (c : cp.Call) : Array Value := #[.int .i64 c.n, .int .i64 c.pane, .int .i64 c.x, .int .i64 c.y, .int .i64 c.kind, .int .i32 c.rune, .int .i64 c.fg, .int .i64 c.bg, .int .i64 c.at_, .slice none 0 0]
theorem GB.start (w : World) (n : Int) : GB w ((w.alloc (callO ⟨n, 0, 0, 0, 0, 0, 0, 0, 0⟩ (.slice none 0 0))).alloc (partO 0 0)) (cellsC ⟨n, 0, 0, 0, 0, 0, 0, 0, 0⟩) #[.int .i64 0, .int .i64 0] := by
  have hx := two_boxes w (callO ⟨n, 0, 0, 0, 0, 0, 0, 0, 0⟩ (.slice none 0 0)) (partO 0 0)
  exact ⟨hx.1, hx.2.1, hx.2.2⟩
theorem NsIn.cell {w : World} {D : Nat → Prop} {o : Option Addr} {m cap : Nat} {l : List Int} (h : NsIn w D (.slice o m cap) l) (k : Nat) (hk : k < l.length) : ∃ b off, o = some ⟨b, off, none⟩ ∧ b < w.heap.size ∧ w.cell? ⟨b, off + k, none⟩ = some (.int .i64 l[k]) := by
  obtain ⟨b, off, e, -, hlt, hc⟩ := RowIn.at_ h k hk
  exact ⟨b, off, e, hlt, hc k _ (by simp [inC, hk])⟩
theorem set_same {C : Array Value} {i : Nat} {u : Value} (e : C[i]? = some u) : C.setIfInBounds i u = C := by
  refine Array.ext_getElem? fun j => ?_
  rw [Array.getElem?_setIfInBounds]
  by_cases h : i = j
  · subst h
    rw [if_pos rfl]
    have hi : i < C.size := (Array.getElem?_eq_some_iff.1 e).1
    rw [if_pos hi, e]
  · rw [if_neg h]
theorem GB.same0 {w wx : World} {C P : Array Value} {i : Nat} {u : Value} (h : GB w wx C P) (e : C[i]? = some u) : GB w (wx.setCell ⟨w.heap.size, i, none⟩ u) C P := h.set0 (set_same e).symm
theorem GB.same1 {w wx : World} {C P : Array Value} {i : Nat} {u : Value} (h : GB w wx C P) (e : P[i]? = some u) : GB w (wx.setCell ⟨w.heap.size + 1, i, none⟩ u) C P := h.set1 (set_same e).symm
theorem GB.all {w wx : World} {c : cp.Call} {x l : Int} (h : GB w wx (cellsC c) #[.int .i64 x, .int .i64 l]) : GB w (((((((((((((wx).setCell ⟨w.heap.size, 0, none⟩ (.int .i64 c.n)).setCell ⟨w.heap.size, 1, none⟩ (.int .i64 c.pane)).setCell ⟨w.heap.size, 2, none⟩ (.int .i64 c.x)).setCell ⟨w.heap.size, 3, none⟩ (.int .i64 c.y)).setCell ⟨w.heap.size, 4, none⟩ (.int .i64 c.kind)).setCell ⟨w.heap.size, 5, none⟩ (.int .i32 c.rune)).setCell ⟨w.heap.size, 6, none⟩ (.int .i64 c.fg)).setCell ⟨w.heap.size, 7, none⟩ (.int .i64 c.bg)).setCell ⟨w.heap.size, 8, none⟩ (.int .i64 c.at_)).setCell ⟨w.heap.size, 9, none⟩ (.slice none 0 0)).setCell ⟨w.heap.size + 1, 0, none⟩ (.int .i64 x)).setCell ⟨w.heap.size + 1, 1, none⟩ (.int .i64 l)).drew (cellsC c) #[.int .i64 x, .int .i64 l] := GB.drew ((((((((((((((((((((((((h).same0 rfl)).same0 rfl)).same0 rfl)).same0 rfl)).same0 rfl)).same0 rfl)).same0 rfl)).same0 rfl)).same0 rfl)).same0 rfl)).same1 rfl)).same1 rfl)
set_option maxRecDepth 100000 in
theorem short_any (x l : Int) (w : World) : Calls Tryd.prog 25 #[partV x l] w fun e w' => BoolAns w w' e (cp.short l) := by
  have HX := Lib.hid (And.intro (heap_alloc_new w (partO x l)) (below_one w (partO x l)))
  have HB := Lib.hid (fun W => btw_any 0 l 64 W)
  have HS : Hid (cp.short l = cp.btw 0 l 64) := Lib.hid rfl
  generalize cp.short l = R at *
  generalize cp.btw 0 l 64 = R2 at *
  go_enter Tryd.func25, Tryd.ntmps25
  go_upto_region 1 with fail
  generalize w.alloc (partO x l) = w1 at *
  have z1 : w1.cell? ⟨w.heap.size, 1, none⟩ = some (.int .i64 l) := (cell_of_heap HX.out.1).trans rfl
  have hl := heap_lt HX.out.1
  go_wp2_with fail
  refine (HB.out _).mono ?_
  rintro e w' ⟨rfl, hw⟩
  replace hw := hw.symm
  subst hw
  go_wp2_with fail
  go_ret
  exact BoolAns.eq ⟨rfl, HX.out.2⟩ HS.out.symm
set_option maxRecDepth 100000 in
theorem cwithin_any (x l : Int) (D : Nat → Prop) (V : Value) (mem : List UInt8) (w : World) (h : BsIn w D V mem) (hs : cp.short l = true) : Calls Tryd.prog 17 #[partV x l, V] w fun e w' => BoolAns w w' e (cp.within x l mem.length) := by
  obtain ⟨o, cap, rfl, hle, hm, -⟩ := id h
  have hl0 := cp.btw_iff.1 hs
  have HX := Lib.hid (And.intro (heap_alloc_new w (partO x l)) (below_one w (partO x l)))
  have HB := Lib.hid (fun W => btw_any 0 x mem.length W)
  have HS : Hid (cp.within x l mem.length = (cp.btw 0 x mem.length && decide (l ≤ mem.length - x))) := Lib.hid rfl
  generalize cp.within x l mem.length = R at *
  have hbi := cp.btw_iff (l := 0) (v := x) (m := mem.length)
  obtain ⟨R2, hR2⟩ : ∃ R2, cp.btw 0 x mem.length = R2 := ⟨_, rfl⟩
  rw [hR2] at HB HS hbi
  clear hR2 h hs
  generalize mem.length = n at *
  go_enter Tryd.func17, Tryd.ntmps17
  go_upto_region 1 with fail
  generalize w.alloc (partO x l) = w1 at *
  have z0 : w1.cell? ⟨w.heap.size, 0, none⟩ = some (.int .i64 x) := (cell_of_heap HX.out.1).trans rfl
  have z1 : w1.cell? ⟨w.heap.size, 1, none⟩ = some (.int .i64 l) := (cell_of_heap HX.out.1).trans rfl
  have hl := heap_lt HX.out.1
  go_wp2_with fail
  refine (HB.out _).mono ?_
  rintro e w' ⟨rfl, hw⟩
  replace hw := hw.symm
  subst hw
  cases R2 with
  | false =>
    clear hbi
    go_wp2_with fail
    go_ret
    exact BoolAns.eq ⟨rfl, HX.out.2⟩ (by rw [HS.out, Bool.false_and])
  | true =>
    obtain ⟨h1, h2⟩ := hbi.1 rfl
    have hw1 : IntKind.i64.wrap ((n : Int) - x) = (n : Int) - x := by rw [IntKind.wrap_i64]; omega
    clear hbi
    go_wp2_with fail
    go_ret
    exact BoolAns.eq ⟨rfl, HX.out.2⟩ (by rw [HS.out, Bool.true_and])

end Go.Proofs.YtbmcmcdgdhabaaaDoor
