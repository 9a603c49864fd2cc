/- Ask. -/
import Derived.Test.YtbmcmcdgdhabaaaDoorCpTake
namespace Go.Proofs.YtbmcmcdgdhabaaaDoor
open Go.RowKit
theorem results_row_tmp {P : Program} {fn : Func} {p u : Tmp} {ty : TypeId} (h : fn.results = #[.cell p ty, .tmp u]) (tmps : Array Value) (w : World) (g : Nat) (t : TypeId) (cs : Array Value) (fr : Nat × Nat) (d : TypeDesc)
    (hp : tmps.getD p undef = .pointer (some ⟨g, 0, none⟩)) (hg : w.heap[g]? = some (.cells cs t fr))
    (hu : P.underlying ty = some d) (hd : (match d with | .struct _ | .array _ _ => true | _ => false) = true) (hi : (P.info? ty).map (·.size) = some cs.size) :
    (results fn tmps).run P w = .ok (.tuple #[.agg cs, tmps.getD u undef]) w := by
  rw [results_cell_tmp h, hp]
  simp [asAddr, run_loadVar_row w g t ty cs fr d hg hu hd hi, Result.andThen]
/-- what Ask answers -/
def AskAns (w w' : World) (e : Ending) (r : cp.Call × List UInt8 × Int) : Prop := ∃ VB, e = .returned (.tuple #[callV r.1 VB, .int .i64 r.2.2]) ∧ BR w' w.heap.size VB r.2.1 ∧ Below w.heap.size w w'
theorem AskAns.eq {w w' : World} {e : Ending} {r r' : cp.Call × List UInt8 × Int} (h : AskAns w w' e r) (hr : r = r') : AskAns w w' e r' := hr ▸ h
theorem BR.nil (w : World) (B : Nat) : BR w B (.slice none 0 0) [] := ⟨rfl, .inl ⟨rfl, rfl⟩⟩
abbrev cellsV (c : cp.Call) (VB : Value) : Array Value := #[.int .i64 c.n, .int .i64 c.pane, .int .i64 c.x, .int .i64 c.y, .int .i64 c.kind, .int .i32 c.rune, .int .i64 c.fg, .int .i64 c.bg, .int .i64 c.at_, VB]
/-- the answer's box -/
structure AB (w wx : World) (C : Array Value) : Prop where
  box : wx.heap[w.heap.size]? = some (.cells C 28 (0, 0))
  bel : Below w.heap.size w wx
theorem AB.next {w wx wy : World} {C : Array Value} (h : AB w wx C) (hb : Below wx.heap.size wx wy) : AB w wy C := ⟨(hb.block _ (heap_lt h.box)).trans h.box, h.bel.trans (hb.mono h.bel.size)⟩
theorem AB.set {w wx : World} {C : Array Value} {i : Nat} {u : Value} (h : AB w wx C) : AB w (wx.setCell ⟨w.heap.size, i, none⟩ u) (C.setIfInBounds i u) := ⟨heap_setCell_same _ _ i _ _ u h.box, h.bel.setCell (Nat.le_refl _) _⟩
theorem fill10 (c0 c1 c2 c3 c4 c5 c6 c7 c8 c9 a0 a1 a2 a3 a4 a5 a6 a7 a8 a9 : Value) : ((((((((((#[c0, c1, c2, c3, c4, c5, c6, c7, c8, c9].setIfInBounds 0 a0).setIfInBounds 1 a1).setIfInBounds 2 a2).setIfInBounds 3 a3).setIfInBounds 4 a4).setIfInBounds 5 a5).setIfInBounds 6 a6).setIfInBounds 7 a7).setIfInBounds 8 a8).setIfInBounds 9 a9) = #[a0, a1, a2, a3, a4, a5, a6, a7, a8, a9] := by
  apply Array.ext'
  simp only [Array.toList_setIfInBounds]
  rfl
theorem AB.fill {w wx : World} {c : cp.Call} {VB : Value} (h : AB w wx (cellsV c VB)) (a0 a1 a2 a3 a4 a5 a6 a7 a8 a9 : Value) :
    AB w ((((((((((wx.setCell ⟨w.heap.size, 0, none⟩ a0).setCell ⟨w.heap.size, 1, none⟩ a1).setCell ⟨w.heap.size, 2, none⟩ a2).setCell ⟨w.heap.size, 3, none⟩ a3).setCell ⟨w.heap.size, 4, none⟩ a4).setCell ⟨w.heap.size, 5, none⟩ a5).setCell ⟨w.heap.size, 6, none⟩ a6).setCell ⟨w.heap.size, 7, none⟩ a7).setCell ⟨w.heap.size, 8, none⟩ a8).setCell ⟨w.heap.size, 9, none⟩ a9) #[a0, a1, a2, a3, a4, a5, a6, a7, a8, a9] := by
  have := (((((((((h.set (i := 0) (u := a0)).set (i := 1) (u := a1)).set (i := 2) (u := a2)).set (i := 3) (u := a3)).set (i := 4) (u := a4)).set (i := 5) (u := a5)).set (i := 6) (u := a6)).set (i := 7) (u := a7)).set (i := 8) (u := a8)).set (i := 9) (u := a9)
  rwa [fill10] at this
theorem far1 (X : World) (b i : Nat) (u : Value) (g : Nat) (h : g ≠ b) : (X.setCell ⟨b, i, none⟩ u).heap[g]? = X.heap[g]? := Below.heap_setCell _ _ _ g h
theorem br_keep {w w' : World} {B q : Nat} {V : Value} {l : List UInt8} {C : Array Value} (hq : w.heap[q]? = some (.cells C 28 (0, 0))) (h : BR w B V l) (hk : ∀ g, g ≠ q → w'.heap[g]? = w.heap[g]?) : BR w' B V l :=
  own_keep h fun g cur _ _ _ hg => hk g (fun e => by
    subst e
    rw [hq] at hg
    injection hg with hg
    injection hg with _ e
    exact absurd e (by decide))
theorem ask_stored {w w8 : World} {q : Nat} {c : cp.Call} {ov : Option Addr} {cv : Nat} {C : Array Value} {ks : List UInt8} (hq : w.heap.size < q) (ha : AB w w8 C) (hx : w8.heap[q]? = some (callO c (.slice none 0 0))) (hr : BR w8 w.heap.size (.slice ov ks.length cv) ks) :
    AB w (w8.setCell ⟨q, 9, none⟩ (.slice ov ks.length cv)) C ∧ (w8.setCell ⟨q, 9, none⟩ (.slice ov ks.length cv)).heap[q]? = some (.cells (cellsV c (.slice ov ks.length cv)) 28 (0, 0)) ∧ BR (w8.setCell ⟨q, 9, none⟩ (.slice ov ks.length cv)) w.heap.size (.slice ov ks.length cv) ks := by
  refine ⟨⟨(Below.heap_setCell _ _ _ _ (by simp only; omega)).trans ha.box, ha.bel.setCell (by simp only; omega) _⟩, heap_setCell_same _ q 9 _ _ _ hx, br_keep hx hr (fun g hg => Below.heap_setCell _ _ _ g hg)⟩
set_option maxRecDepth 100000 in
set_option maxHeartbeats 6400000 in
theorem ask_any (D D' : Nat → Prop) (VA VM : Value) (have_ n : Int) (a : List Int) (mem : List UInt8) (w : World) (ht : HT w) (nt : NT w) (ha : NsIn w D VA a) (hm : BsIn w D' VM mem) :
    Calls Tryd.prog 7 #[.int .i64 have_, .int .i64 n, VA, VM] w fun e w' => AskAns w w' e (cp.ask have_ n a mem) := by
  obtain ⟨oa, ca, rfl, hla, hma, -⟩ := id ha
  obtain ⟨om, cm, rfl, hlm, hmm, -⟩ := id hm
  obtain ⟨R, hR⟩ : ∃ R, cp.ask have_ n a mem = R := ⟨_, rfl⟩
  rw [hR]
  have HR : Hid (R = if (ck.hostEff n).2.2 = true ∧ (a.length : Int) = (ck.hostEff n).1 then
    if bits .and .i64 have_ (cp.needs n) = cp.needs n then
      if (cp.read n.toNat a).ok = true then
        if cp.within (cp.read n.toNat a).at_ (cp.read n.toNat a).len mem.length = true then ((cp.read n.toNat a).c, (mem.drop (cp.read n.toNat a).at_.toNat).take (cp.read n.toNat a).len.toNat, 0)
        else (cp.zero, [], -4)
      else (cp.zero, [], -3)
    else (cp.zero, [], -2)
  else (cp.zero, [], -1)) := Lib.hid (by rw [← hR]; rfl)
  have hb1 := below_one w (callO ⟨0, 0, 0, 0, 0, 0, 0, 0, 0⟩ (.slice none 0 0))
  have HA1 := Lib.hid (show AB w (w.alloc (callO ⟨0, 0, 0, 0, 0, 0, 0, 0, 0⟩ (.slice none 0 0))) (cellsV ⟨0, 0, 0, 0, 0, 0, 0, 0, 0⟩ (.slice none 0 0)) from ⟨heap_alloc_new w _, hb1⟩)
  have HIA := Lib.hid (fun (W : World) (hb : Below w.heap.size w W) => RowIn.below ha hb)
  have HIM := Lib.hid (fun (W : World) (hb : Below w.heap.size w W) => RowIn.below hm hb)
  have HTT := Lib.hid (fun (W : World) (hb : Below w.heap.size w W) => ht.below hb)
  have HNT := Lib.hid (fun (W : World) (hb : Below w.heap.size w W) => nt.below hb)
  clear hR hb1 ha hm ht nt
  go_enter Tryd.func7, Tryd.ntmps7
  go_upto_region 1 with fail
  generalize w.alloc (callO ⟨0, 0, 0, 0, 0, 0, 0, 0, 0⟩ (.slice none 0 0)) = w1 at *
  have HTK := Lib.hid (taken_any n w1 (HTT.out w1 HA1.out.bel))
  have hkk : (ck.hostEff n).2.2 = true → 0 ≤ n ∧ n < 12 := fun h => by
    unfold ck.hostEff at h
    by_cases hb : ck.below n 12 = true
    · exact ck.below_iff.1 hb
    · rw [if_neg hb] at h; exact absurd h (by decide)
  have HRA := Lib.hid (fun (k : Nat) (W : World) (hW : Below w.heap.size w W) (hk : k < 12) (hl : (a.length : Int) = (ck.hostEff (k : Int)).1) => read_any D _ k a W (HIA.out W hW) hk hl)
  obtain ⟨TE, hTE⟩ : ∃ TE, ck.hostEff n = TE := ⟨_, rfl⟩
  have HTE := Lib.hid hTE
  rw [hTE] at HTK HR hkk
  clear hTE
  obtain ⟨T, p, ok⟩ := TE
  dsimp only at HR hkk
  obtain ⟨la, hlaa⟩ : ∃ la, a.length = la := ⟨_, rfl⟩
  have HLA := Lib.hid hlaa
  rw [hlaa] at HR HRA hla
  rw [hlaa]
  obtain ⟨nm, hnm⟩ : ∃ nm, mem.length = nm := ⟨_, rfl⟩
  have HNM := Lib.hid hnm
  rw [hnm] at HR hlm
  rw [hnm]
  clear hlaa hnm
  go_wp2_with fail
  refine HTK.out.mono ?_
  rintro e w2 ⟨rfl, hb2⟩
  have HA2 := Lib.hid (HA1.out.next hb2)
  clear hb2 HTK HA1
  dsimp only
  by_cases hok : ok = true ∧ (la : Int) = T
  case neg =>
    have HRR : Hid (R = (cp.zero, [], -1)) := Lib.hid (by rw [HR.out, if_neg hok])
    clear HR hkk
    cases ok with
    | false =>
      have x0 : w2.cell? ⟨w.heap.size, 0, none⟩ = some (.int .i64 0) := (cell_of_heap HA2.out.box).trans rfl
      have x1 : w2.cell? ⟨w.heap.size, 1, none⟩ = some (.int .i64 0) := (cell_of_heap HA2.out.box).trans rfl
      have x2 : w2.cell? ⟨w.heap.size, 2, none⟩ = some (.int .i64 0) := (cell_of_heap HA2.out.box).trans rfl
      have x3 : w2.cell? ⟨w.heap.size, 3, none⟩ = some (.int .i64 0) := (cell_of_heap HA2.out.box).trans rfl
      have x4 : w2.cell? ⟨w.heap.size, 4, none⟩ = some (.int .i64 0) := (cell_of_heap HA2.out.box).trans rfl
      have x5 : w2.cell? ⟨w.heap.size, 5, none⟩ = some (.int .i32 0) := (cell_of_heap HA2.out.box).trans rfl
      have x6 : w2.cell? ⟨w.heap.size, 6, none⟩ = some (.int .i64 0) := (cell_of_heap HA2.out.box).trans rfl
      have x7 : w2.cell? ⟨w.heap.size, 7, none⟩ = some (.int .i64 0) := (cell_of_heap HA2.out.box).trans rfl
      have x8 : w2.cell? ⟨w.heap.size, 8, none⟩ = some (.int .i64 0) := (cell_of_heap HA2.out.box).trans rfl
      have x9 : w2.cell? ⟨w.heap.size, 9, none⟩ = some (.slice none 0 0) := (cell_of_heap HA2.out.box).trans rfl
      have g0 := thaw (k := 0) HA2.out.box
      have g1 := thaw (k := 1) HA2.out.box
      have g2 := thaw (k := 2) HA2.out.box
      have g3 := thaw (k := 3) HA2.out.box
      have g4 := thaw (k := 4) HA2.out.box
      have g5 := thaw (k := 5) HA2.out.box
      have g6 := thaw (k := 6) HA2.out.box
      have g7 := thaw (k := 7) HA2.out.box
      have g8 := thaw (k := 8) HA2.out.box
      have g9 := thaw (k := 9) HA2.out.box
      have hlx := heap_lt HA2.out.box
      have HF := Lib.hid (HA2.out.fill (.int .i64 0) (.int .i64 0) (.int .i64 0) (.int .i64 0) (.int .i64 0) (.int .i32 0) (.int .i64 0) (.int .i64 0) (.int .i64 0) (.slice none 0 0))
      go_wp2_with fail
      refine bodyPost_ret (results_row_tmp rfl _ _ w.heap.size 28 _ (0, 0) _ rfl HF.out.box Tryd.underlying28 rfl (by kernel_rfl)) rfl ?_
      exact AskAns.eq (r := (cp.zero, [], -1)) ⟨_, rfl, BR.nil _ _, HF.out.bel⟩ HRR.out.symm
    | true =>
      have e1 : ((la : Int) != T) = true := by simp; intro e; exact hok ⟨rfl, e⟩
      have x0 : w2.cell? ⟨w.heap.size, 0, none⟩ = some (.int .i64 0) := (cell_of_heap HA2.out.box).trans rfl
      have x1 : w2.cell? ⟨w.heap.size, 1, none⟩ = some (.int .i64 0) := (cell_of_heap HA2.out.box).trans rfl
      have x2 : w2.cell? ⟨w.heap.size, 2, none⟩ = some (.int .i64 0) := (cell_of_heap HA2.out.box).trans rfl
      have x3 : w2.cell? ⟨w.heap.size, 3, none⟩ = some (.int .i64 0) := (cell_of_heap HA2.out.box).trans rfl
      have x4 : w2.cell? ⟨w.heap.size, 4, none⟩ = some (.int .i64 0) := (cell_of_heap HA2.out.box).trans rfl
      have x5 : w2.cell? ⟨w.heap.size, 5, none⟩ = some (.int .i32 0) := (cell_of_heap HA2.out.box).trans rfl
      have x6 : w2.cell? ⟨w.heap.size, 6, none⟩ = some (.int .i64 0) := (cell_of_heap HA2.out.box).trans rfl
      have x7 : w2.cell? ⟨w.heap.size, 7, none⟩ = some (.int .i64 0) := (cell_of_heap HA2.out.box).trans rfl
      have x8 : w2.cell? ⟨w.heap.size, 8, none⟩ = some (.int .i64 0) := (cell_of_heap HA2.out.box).trans rfl
      have x9 : w2.cell? ⟨w.heap.size, 9, none⟩ = some (.slice none 0 0) := (cell_of_heap HA2.out.box).trans rfl
      have g0 := thaw (k := 0) HA2.out.box
      have g1 := thaw (k := 1) HA2.out.box
      have g2 := thaw (k := 2) HA2.out.box
      have g3 := thaw (k := 3) HA2.out.box
      have g4 := thaw (k := 4) HA2.out.box
      have g5 := thaw (k := 5) HA2.out.box
      have g6 := thaw (k := 6) HA2.out.box
      have g7 := thaw (k := 7) HA2.out.box
      have g8 := thaw (k := 8) HA2.out.box
      have g9 := thaw (k := 9) HA2.out.box
      have hlx := heap_lt HA2.out.box
      have HF := Lib.hid (HA2.out.fill (.int .i64 0) (.int .i64 0) (.int .i64 0) (.int .i64 0) (.int .i64 0) (.int .i32 0) (.int .i64 0) (.int .i64 0) (.int .i64 0) (.slice none 0 0))
      go_wp2_with fail
      refine bodyPost_ret (results_row_tmp rfl _ _ w.heap.size 28 _ (0, 0) _ rfl HF.out.box Tryd.underlying28 rfl (by kernel_rfl)) rfl ?_
      exact AskAns.eq (r := (cp.zero, [], -1)) ⟨_, rfl, BR.nil _ _, HF.out.bel⟩ HRR.out.symm
  case pos =>
    obtain ⟨rfl, hT⟩ := hok
    obtain ⟨hn0, hn12⟩ := hkk rfl
    obtain ⟨k, rfl⟩ : ∃ k : Nat, n = (k : Int) := ⟨n.toNat, by omega⟩
    have HRK := Lib.hid (fun (W : World) (hW : Below w.heap.size w W) => HRA.out k W hW (by omega) (by rw [HTE.out]; exact hT))
    have hR2 := HR.out
    rw [if_pos ⟨rfl, hT⟩, Int.toNat_natCast] at hR2
    subst hT
    have e1 : ((la : Int) != (la : Int)) = false := by simp
    have HND := Lib.hid (needs_any (k : Int) w2 (HNT.out w2 HA2.out.bel))
    have HSH := Lib.hid (cp.read_short k a)
    clear hkk HR HRA HTE
    obtain ⟨nd, hnd⟩ : ∃ nd, cp.needs (k : Int) = nd := ⟨_, rfl⟩
    rw [hnd] at HND hR2
    clear hnd
    obtain ⟨RD, hRD⟩ : ∃ RD, cp.read k a = RD := ⟨_, rfl⟩
    rw [hRD] at HRK hR2 HSH
    clear hRD
    have HR := Lib.hid hR2
    clear hR2
    go_wp2_with fail
    refine HND.out.mono ?_
    rintro e w3 ⟨rfl, hw⟩
    replace hw := hw.symm
    subst hw
    clear HND
    by_cases hcap : bits .and .i64 have_ nd = nd
    case neg =>
      have HRR : Hid (R = (cp.zero, [], -2)) := Lib.hid (by rw [HR.out, if_neg hcap])
      have e2 : (bits .and .i64 have_ nd != nd) = true := by simpa using hcap
      clear HR hcap e1
      have x0 : w2.cell? ⟨w.heap.size, 0, none⟩ = some (.int .i64 0) := (cell_of_heap HA2.out.box).trans rfl
      have x1 : w2.cell? ⟨w.heap.size, 1, none⟩ = some (.int .i64 0) := (cell_of_heap HA2.out.box).trans rfl
      have x2 : w2.cell? ⟨w.heap.size, 2, none⟩ = some (.int .i64 0) := (cell_of_heap HA2.out.box).trans rfl
      have x3 : w2.cell? ⟨w.heap.size, 3, none⟩ = some (.int .i64 0) := (cell_of_heap HA2.out.box).trans rfl
      have x4 : w2.cell? ⟨w.heap.size, 4, none⟩ = some (.int .i64 0) := (cell_of_heap HA2.out.box).trans rfl
      have x5 : w2.cell? ⟨w.heap.size, 5, none⟩ = some (.int .i32 0) := (cell_of_heap HA2.out.box).trans rfl
      have x6 : w2.cell? ⟨w.heap.size, 6, none⟩ = some (.int .i64 0) := (cell_of_heap HA2.out.box).trans rfl
      have x7 : w2.cell? ⟨w.heap.size, 7, none⟩ = some (.int .i64 0) := (cell_of_heap HA2.out.box).trans rfl
      have x8 : w2.cell? ⟨w.heap.size, 8, none⟩ = some (.int .i64 0) := (cell_of_heap HA2.out.box).trans rfl
      have x9 : w2.cell? ⟨w.heap.size, 9, none⟩ = some (.slice none 0 0) := (cell_of_heap HA2.out.box).trans rfl
      have g0 := thaw (k := 0) HA2.out.box
      have g1 := thaw (k := 1) HA2.out.box
      have g2 := thaw (k := 2) HA2.out.box
      have g3 := thaw (k := 3) HA2.out.box
      have g4 := thaw (k := 4) HA2.out.box
      have g5 := thaw (k := 5) HA2.out.box
      have g6 := thaw (k := 6) HA2.out.box
      have g7 := thaw (k := 7) HA2.out.box
      have g8 := thaw (k := 8) HA2.out.box
      have g9 := thaw (k := 9) HA2.out.box
      have hlx := heap_lt HA2.out.box
      have HF := Lib.hid (HA2.out.fill (.int .i64 0) (.int .i64 0) (.int .i64 0) (.int .i64 0) (.int .i64 0) (.int .i32 0) (.int .i64 0) (.int .i64 0) (.int .i64 0) (.slice none 0 0))
      go_wp2_with fail
      refine bodyPost_ret (results_row_tmp rfl _ _ w.heap.size 28 _ (0, 0) _ rfl HF.out.box Tryd.underlying28 rfl (by kernel_rfl)) rfl ?_
      exact AskAns.eq (r := (cp.zero, [], -2)) ⟨_, rfl, BR.nil _ _, HF.out.bel⟩ HRR.out.symm
    case pos =>
      have hR2 := HR.out
      rw [if_pos hcap] at hR2
      have e2 : (bits .and .i64 have_ nd != nd) = false := by simpa using hcap
      have HR2 := Lib.hid hR2
      clear HR hR2 hcap
      have HRW := Lib.hid (HRK.out w2 HA2.out.bel)
      clear HRK
      go_wp2_with fail
      refine HRW.out.mono ?_
      rintro e w3 ⟨rfl, hb3⟩
      have HA3 := Lib.hid (HA2.out.next hb3)
      clear hb3 HRW HA2 e1 e2
      obtain ⟨c, x, l, ok⟩ := RD
      dsimp only at HR2 HSH ⊢
      have hx := two_boxes w3 (callO c (.slice none 0 0)) (partO x l)
      have HX := Lib.hid hx
      have HA4 := Lib.hid (HA3.out.next hx.2.2)
      have HQL := Lib.hid (heap_lt HA3.out.box)
      clear hx HA3
      go_upto_region 8 with fail
      generalize (w3.alloc (callO c (.slice none 0 0))).alloc (partO x l) = w4 at *
      generalize w3.heap.size = q at *
      cases ok with
      | false =>
        have HRR : Hid (R = (cp.zero, [], -3)) := Lib.hid HR2.out
        clear HR2 HX HSH
        have x0 : w4.cell? ⟨w.heap.size, 0, none⟩ = some (.int .i64 0) := (cell_of_heap HA4.out.box).trans rfl
        have x1 : w4.cell? ⟨w.heap.size, 1, none⟩ = some (.int .i64 0) := (cell_of_heap HA4.out.box).trans rfl
        have x2 : w4.cell? ⟨w.heap.size, 2, none⟩ = some (.int .i64 0) := (cell_of_heap HA4.out.box).trans rfl
        have x3 : w4.cell? ⟨w.heap.size, 3, none⟩ = some (.int .i64 0) := (cell_of_heap HA4.out.box).trans rfl
        have x4 : w4.cell? ⟨w.heap.size, 4, none⟩ = some (.int .i64 0) := (cell_of_heap HA4.out.box).trans rfl
        have x5 : w4.cell? ⟨w.heap.size, 5, none⟩ = some (.int .i32 0) := (cell_of_heap HA4.out.box).trans rfl
        have x6 : w4.cell? ⟨w.heap.size, 6, none⟩ = some (.int .i64 0) := (cell_of_heap HA4.out.box).trans rfl
        have x7 : w4.cell? ⟨w.heap.size, 7, none⟩ = some (.int .i64 0) := (cell_of_heap HA4.out.box).trans rfl
        have x8 : w4.cell? ⟨w.heap.size, 8, none⟩ = some (.int .i64 0) := (cell_of_heap HA4.out.box).trans rfl
        have x9 : w4.cell? ⟨w.heap.size, 9, none⟩ = some (.slice none 0 0) := (cell_of_heap HA4.out.box).trans rfl
        have g0 := thaw (k := 0) HA4.out.box
        have g1 := thaw (k := 1) HA4.out.box
        have g2 := thaw (k := 2) HA4.out.box
        have g3 := thaw (k := 3) HA4.out.box
        have g4 := thaw (k := 4) HA4.out.box
        have g5 := thaw (k := 5) HA4.out.box
        have g6 := thaw (k := 6) HA4.out.box
        have g7 := thaw (k := 7) HA4.out.box
        have g8 := thaw (k := 8) HA4.out.box
        have g9 := thaw (k := 9) HA4.out.box
        have hlx := heap_lt HA4.out.box
        have HF := Lib.hid (HA4.out.fill (.int .i64 0) (.int .i64 0) (.int .i64 0) (.int .i64 0) (.int .i64 0) (.int .i32 0) (.int .i64 0) (.int .i64 0) (.int .i64 0) (.slice none 0 0))
        go_wp2_with fail
        refine bodyPost_ret (results_row_tmp rfl _ _ w.heap.size 28 _ (0, 0) _ rfl HF.out.box Tryd.underlying28 rfl (by kernel_rfl)) rfl ?_
        exact AskAns.eq (r := (cp.zero, [], -3)) ⟨_, rfl, BR.nil _ _, HF.out.bel⟩ HRR.out.symm
      | true =>
        have hR3 : R = if cp.within x l nm = true then (c, (mem.drop x.toNat).take l.toNat, 0) else (cp.zero, [], -4) := HR2.out
        have HR3 := Lib.hid hR3
        have HWI := Lib.hid (cwithin_any x l D' _ mem w4 (HIM.out w4 HA4.out.bel) (HSH.out rfl))
        rw [HNM.out] at HWI
        have hsh := cp.btw_iff.1 (HSH.out rfl)
        clear HR2 hR3 HSH
        have z0 : w4.cell? ⟨q + 1, 0, none⟩ = some (.int .i64 x) := (cell_of_heap HX.out.2.1).trans rfl
        have z1 : w4.cell? ⟨q + 1, 1, none⟩ = some (.int .i64 l) := (cell_of_heap HX.out.2.1).trans rfl
        have hlz := heap_lt HX.out.2.1
        have hwi : cp.within x l nm = true → (0 ≤ x ∧ x ≤ nm) ∧ l ≤ nm - x := fun h => by
          unfold cp.within at h
          simp only [Bool.and_eq_true, decide_eq_true_eq] at h
          exact ⟨cp.btw_iff.1 h.1, h.2⟩
        obtain ⟨wi, hwie⟩ : ∃ wi, cp.within x l nm = wi := ⟨_, rfl⟩
        rw [hwie] at HWI HR3 hwi
        clear hwie
        go_wp2_with fail
        refine HWI.out.mono ?_
        rintro e w5 ⟨rfl, hb5⟩
        have HA5 := Lib.hid (HA4.out.next hb5)
        have HX5 := Lib.hid (And.intro ((hb5.block _ (heap_lt HX.out.1)).trans HX.out.1) ((hb5.block _ (heap_lt HX.out.2.1)).trans HX.out.2.1))
        clear hb5 HWI HA4 HX z0 z1 hlz
        cases wi with
        | false =>
          have HRR : Hid (R = (cp.zero, [], -4)) := Lib.hid HR3.out
          clear HR3 HX5 hwi
          have x0 : w5.cell? ⟨w.heap.size, 0, none⟩ = some (.int .i64 0) := (cell_of_heap HA5.out.box).trans rfl
          have x1 : w5.cell? ⟨w.heap.size, 1, none⟩ = some (.int .i64 0) := (cell_of_heap HA5.out.box).trans rfl
          have x2 : w5.cell? ⟨w.heap.size, 2, none⟩ = some (.int .i64 0) := (cell_of_heap HA5.out.box).trans rfl
          have x3 : w5.cell? ⟨w.heap.size, 3, none⟩ = some (.int .i64 0) := (cell_of_heap HA5.out.box).trans rfl
          have x4 : w5.cell? ⟨w.heap.size, 4, none⟩ = some (.int .i64 0) := (cell_of_heap HA5.out.box).trans rfl
          have x5 : w5.cell? ⟨w.heap.size, 5, none⟩ = some (.int .i32 0) := (cell_of_heap HA5.out.box).trans rfl
          have x6 : w5.cell? ⟨w.heap.size, 6, none⟩ = some (.int .i64 0) := (cell_of_heap HA5.out.box).trans rfl
          have x7 : w5.cell? ⟨w.heap.size, 7, none⟩ = some (.int .i64 0) := (cell_of_heap HA5.out.box).trans rfl
          have x8 : w5.cell? ⟨w.heap.size, 8, none⟩ = some (.int .i64 0) := (cell_of_heap HA5.out.box).trans rfl
          have x9 : w5.cell? ⟨w.heap.size, 9, none⟩ = some (.slice none 0 0) := (cell_of_heap HA5.out.box).trans rfl
          have g0 := thaw (k := 0) HA5.out.box
          have g1 := thaw (k := 1) HA5.out.box
          have g2 := thaw (k := 2) HA5.out.box
          have g3 := thaw (k := 3) HA5.out.box
          have g4 := thaw (k := 4) HA5.out.box
          have g5 := thaw (k := 5) HA5.out.box
          have g6 := thaw (k := 6) HA5.out.box
          have g7 := thaw (k := 7) HA5.out.box
          have g8 := thaw (k := 8) HA5.out.box
          have g9 := thaw (k := 9) HA5.out.box
          have hlx := heap_lt HA5.out.box
          have HF := Lib.hid (HA5.out.fill (.int .i64 0) (.int .i64 0) (.int .i64 0) (.int .i64 0) (.int .i64 0) (.int .i32 0) (.int .i64 0) (.int .i64 0) (.int .i64 0) (.slice none 0 0))
          go_wp2_with fail
          refine bodyPost_ret (results_row_tmp rfl _ _ w.heap.size 28 _ (0, 0) _ rfl HF.out.box Tryd.underlying28 rfl (by kernel_rfl)) rfl ?_
          exact AskAns.eq (r := (cp.zero, [], -4)) ⟨_, rfl, BR.nil _ _, HF.out.bel⟩ HRR.out.symm
        | true =>
          obtain ⟨⟨hx0, hx1⟩, hx2⟩ := hwi rfl
          obtain ⟨xn, rfl⟩ : ∃ xn : Nat, x = (xn : Int) := ⟨x.toNat, by omega⟩
          obtain ⟨ln, rfl⟩ : ∃ ln : Nat, l = (ln : Int) := ⟨l.toNat, by omega⟩
          have HRR : Hid (R = (c, (mem.drop xn).take ln, 0)) := Lib.hid HR3.out
          clear HR3 hwi
          obtain ⟨hn, hhn⟩ : ∃ hn, xn + ln = hn := ⟨_, rfl⟩
          have hw : IntKind.i64.wrap ((xn : Int) + (ln : Int)) = (hn : Int) := by rw [IntKind.wrap_i64]; omega
          have hlo := run_blh om nm cm xn hn (by omega) (by omega)
          have hln : hn - xn = ln := by omega
          rw [hln] at hlo
          have HBS : Hid (∀ W, Below w.heap.size w W → BsIn W D' (.slice (slo om cm xn) ln (cm - xn)) ((mem.drop xn).take ln)) := Lib.hid (fun W hb => BsIn.take (BsIn.drop (HIM.out W hb) xn (by rw [HNM.out]; omega)) ln (by rw [List.length_drop, HNM.out]; omega))
          have hkl : Hid (((mem.drop xn).take ln).length ≤ 64) := Lib.hid (by rw [List.length_take]; omega)
          have HP : Hid (∀ k : Nat, BR (w5.drewN k) w.heap.size (.slice none 0 0) [] ∧ BsIn (w5.drewN k) D' (.slice (slo om cm xn) ln (cm - xn)) ((mem.drop xn).take ln) ∧ w.heap.size ≤ (w5.drewN k).heap.size ∧ Below w5.heap.size w5 (w5.drewN k)) := Lib.hid (fun k => ⟨BR.nil _ _, HBS.out _ (below_dN HA5.out.bel k), HA5.out.bel.size, below_dN (Below.refl _ _) k⟩)
          have y9 : w5.cell? ⟨q, 9, none⟩ = some (.slice none 0 0) := (cell_of_heap HX5.out.1).trans rfl
          have z0 : w5.cell? ⟨q + 1, 0, none⟩ = some (.int .i64 (xn : Int)) := (cell_of_heap HX5.out.2).trans rfl
          have z1 : w5.cell? ⟨q + 1, 1, none⟩ = some (.int .i64 (ln : Int)) := (cell_of_heap HX5.out.2).trans rfl
          have hlq := heap_lt HX5.out.1
          have hlz := heap_lt HX5.out.2
          clear hhn hln hx0 hx1 hx2 hsh
          generalize (mem.drop xn).take ln = ks at *
          go_upto_region 12 with fail
          go_cut [9] from 53 to 65 (fun s9 wx => s9 = .int .i64 0 ∧ ∃ (ov : Option Addr) (cv : Nat), Hid (AB w wx (cellsV ⟨0, 0, 0, 0, 0, 0, 0, 0, 0⟩ (.slice none 0 0)) ∧ wx.heap[q]? = some (.cells (cellsV c (.slice ov ks.length cv)) 28 (0, 0)) ∧ BR wx w.heap.size (.slice ov ks.length cv) ks))
          case first =>
            go_region_law (refine step_append_bytes rfl (.tmp 54) (.tmp 63) rfl w.heap.size (.slice none 0 0) [] rfl (HP.out _).1 (slo om cm xn) ln (cm - xn) D' ks rfl (HP.out _).2.1 (by have := hkl.out; simp only [List.length_nil]; omega) (HP.out _).2.2.1 ?_; intro v' w8 r0 r2; have r1 : BR w8 w.heap.size v' ks := r0; obtain ⟨ov, cv, rfl⟩ := own_slice r1; have hb8 := (HP.out _).2.2.2.trans (((Fr.of_grown r2).to_below _ (Nat.le_refl _) (fun k _ e => by cases e)).mono (HP.out _).2.2.2.size); have hx8 := (hb8.block _ (heap_lt HX5.out.1)).trans HX5.out.1; have y9' : w8.cell? ⟨q, 9, none⟩ = some (.slice none 0 0) := (cell_of_heap hx8).trans rfl; have g9' := thaw (k := 9) hx8; have hlq' := heap_lt hx8; have H8 := Lib.hid (ask_stored (ov := ov) (cv := cv) HQL.out (HA5.out.next hb8) hx8 r1); clear r0 r1 r2 hb8 hx8)
            all_goals
              go_wp2_with fail
              go_meet
              exact ⟨rfl, _, _, H8⟩
          case rest =>
          obtain ⟨rfl, ov, cv, H8⟩ := hcut
          clear y9 z0 z1 hlq hlz HP HBS hlo hw HA5 HX5
          generalize wc = w9 at *
          obtain ⟨c0, c1, c2, c3, c4, c5, c6, c7, c8⟩ := c
          have x0 : w9.cell? ⟨w.heap.size, 0, none⟩ = some (.int .i64 0) := (cell_of_heap H8.out.1.box).trans rfl
          have y0 : w9.cell? ⟨q, 0, none⟩ = some (.int .i64 c0) := (cell_of_heap H8.out.2.1).trans rfl
          have x1 : w9.cell? ⟨w.heap.size, 1, none⟩ = some (.int .i64 0) := (cell_of_heap H8.out.1.box).trans rfl
          have y1 : w9.cell? ⟨q, 1, none⟩ = some (.int .i64 c1) := (cell_of_heap H8.out.2.1).trans rfl
          have x2 : w9.cell? ⟨w.heap.size, 2, none⟩ = some (.int .i64 0) := (cell_of_heap H8.out.1.box).trans rfl
          have y2 : w9.cell? ⟨q, 2, none⟩ = some (.int .i64 c2) := (cell_of_heap H8.out.2.1).trans rfl
          have x3 : w9.cell? ⟨w.heap.size, 3, none⟩ = some (.int .i64 0) := (cell_of_heap H8.out.1.box).trans rfl
          have y3 : w9.cell? ⟨q, 3, none⟩ = some (.int .i64 c3) := (cell_of_heap H8.out.2.1).trans rfl
          have x4 : w9.cell? ⟨w.heap.size, 4, none⟩ = some (.int .i64 0) := (cell_of_heap H8.out.1.box).trans rfl
          have y4 : w9.cell? ⟨q, 4, none⟩ = some (.int .i64 c4) := (cell_of_heap H8.out.2.1).trans rfl
          have x5 : w9.cell? ⟨w.heap.size, 5, none⟩ = some (.int .i32 0) := (cell_of_heap H8.out.1.box).trans rfl
          have y5 : w9.cell? ⟨q, 5, none⟩ = some (.int .i32 c5) := (cell_of_heap H8.out.2.1).trans rfl
          have x6 : w9.cell? ⟨w.heap.size, 6, none⟩ = some (.int .i64 0) := (cell_of_heap H8.out.1.box).trans rfl
          have y6 : w9.cell? ⟨q, 6, none⟩ = some (.int .i64 c6) := (cell_of_heap H8.out.2.1).trans rfl
          have x7 : w9.cell? ⟨w.heap.size, 7, none⟩ = some (.int .i64 0) := (cell_of_heap H8.out.1.box).trans rfl
          have y7 : w9.cell? ⟨q, 7, none⟩ = some (.int .i64 c7) := (cell_of_heap H8.out.2.1).trans rfl
          have x8 : w9.cell? ⟨w.heap.size, 8, none⟩ = some (.int .i64 0) := (cell_of_heap H8.out.1.box).trans rfl
          have y8 : w9.cell? ⟨q, 8, none⟩ = some (.int .i64 c8) := (cell_of_heap H8.out.2.1).trans rfl
          have x9 : w9.cell? ⟨w.heap.size, 9, none⟩ = some (.slice none 0 0) := (cell_of_heap H8.out.1.box).trans rfl
          have y9 : w9.cell? ⟨q, 9, none⟩ = some (.slice ov ks.length cv) := (cell_of_heap H8.out.2.1).trans rfl
          have g0 := thaw (k := 0) H8.out.1.box
          have g1 := thaw (k := 1) H8.out.1.box
          have g2 := thaw (k := 2) H8.out.1.box
          have g3 := thaw (k := 3) H8.out.1.box
          have g4 := thaw (k := 4) H8.out.1.box
          have g5 := thaw (k := 5) H8.out.1.box
          have g6 := thaw (k := 6) H8.out.1.box
          have g7 := thaw (k := 7) H8.out.1.box
          have g8 := thaw (k := 8) H8.out.1.box
          have g9 := thaw (k := 9) H8.out.1.box
          have hlx := heap_lt H8.out.1.box
          have hlq := heap_lt H8.out.2.1
          have HF := Lib.hid (H8.out.1.fill (.int .i64 c0) (.int .i64 c1) (.int .i64 c2) (.int .i64 c3) (.int .i64 c4) (.int .i32 c5) (.int .i64 c6) (.int .i64 c7) (.int .i64 c8) (.slice ov ks.length cv))
          have HBR : Hid (BR (((((((((((w9).setCell ⟨w.heap.size, 0, none⟩ (.int .i64 c0)).setCell ⟨w.heap.size, 1, none⟩ (.int .i64 c1)).setCell ⟨w.heap.size, 2, none⟩ (.int .i64 c2)).setCell ⟨w.heap.size, 3, none⟩ (.int .i64 c3)).setCell ⟨w.heap.size, 4, none⟩ (.int .i64 c4)).setCell ⟨w.heap.size, 5, none⟩ (.int .i32 c5)).setCell ⟨w.heap.size, 6, none⟩ (.int .i64 c6)).setCell ⟨w.heap.size, 7, none⟩ (.int .i64 c7)).setCell ⟨w.heap.size, 8, none⟩ (.int .i64 c8)).setCell ⟨w.heap.size, 9, none⟩ (.slice ov ks.length cv)) w.heap.size (.slice ov ks.length cv) ks) := Lib.hid (br_keep H8.out.1.box H8.out.2.2 (fun g hg => by repeat rw [far1 _ _ _ _ g hg]))
          go_wp2_with fail
          refine bodyPost_ret (results_row_tmp rfl _ _ w.heap.size 28 _ (0, 0) _ rfl HF.out.box Tryd.underlying28 rfl (by kernel_rfl)) rfl ?_
          exact AskAns.eq (r := (⟨c0, c1, c2, c3, c4, c5, c6, c7, c8⟩, ks, 0)) ⟨_, rfl, HBR.out, HF.out.bel⟩ HRR.out.symm
end Go.Proofs.YtbmcmcdgdhabaaaDoor
